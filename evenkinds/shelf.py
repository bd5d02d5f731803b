"""Kinds by number: lets kind_of ask whether two kinds are the same.

A let that pairs its name with itself doubles a kind, so a program of some sixty parts may have a kind that, written
out, has more parts than could ever be walked. On the shelf a kind that is built twice of the same numbers is looked
into once, and no comparison goes by calls in calls.
"""


class Shelf:
    def __init__(self):
        self.kinds = []
        self.halves = []
        self.same_as = []

    def laid(self, kind):
        return self.stored(kind, None)

    def built(self, word, first, second):
        return self.stored((word, self.kinds[first], self.kinds[second]), (first, second))

    def stored(self, kind, parts):
        number = len(self.kinds)
        self.kinds.append(kind)
        self.halves.append(parts)
        self.same_as.append(number)
        return number

    def kind_at(self, number):
        return self.kinds[number]

    def word_at(self, number):
        return self.kinds[number][0]

    # Looked into only when asked for: a name's kind may be large, and most are never looked into.
    def within(self, number):
        if self.halves[number] is None:
            self.halves[number] = tuple([self.laid(part) for part in self.kinds[number][1:]])
        return self.halves[number]

    def first_like(self, number):
        here = number
        while self.same_as[here] != here:
            self.same_as[here] = self.same_as[self.same_as[here]]
            here = self.same_as[here]
        return here

    # Two are held to be the same before what is within them has been looked at. If that proves wrong, the answer is
    # False, and the shelf must not be asked again.
    def are_same(self, one, other):
        open_pairs = [(one, other)]
        while len(open_pairs) > 0:
            pair = open_pairs.pop()
            left = self.first_like(pair[0])
            right = self.first_like(pair[1])
            if left == right:
                continue
            if self.word_at(left) != self.word_at(right):
                return False
            self.same_as[right] = left
            open_pairs.extend(list(zip(self.within(left), self.within(right))))
        return True
