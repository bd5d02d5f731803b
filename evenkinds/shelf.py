"""Nested tuples made part by part, and by number.

A let that pairs its name with itself doubles a kind, so a program of some sixty parts may have a kind that, written
out, has more parts than could ever be walked; so may its thing, and what it runs to. In such a tuple the same part
stands again and again, and here it is walked but once. Nothing goes by calls in calls.
"""

# Tuples of fewer parts are walked sooner than their parts are sought among those met.
FEW = 2000

# Python compares tuples by calls in calls, so deeper ones are not sought.
DEEPEST = 300


# Made of what its parts were made to.
def made_of_parts(whole, parts_of, made):
    order = order_of_few(whole, parts_of)
    if order is None:
        return made_of_many(whole, parts_of, made)
    done = []
    for here, many in reversed(order):
        done.append(made(here, taken(done, many) if many > 0 else []))
    return done[0]


# The parts in order, each ahead of its own and the last of those first: so, walked from behind, they are done in order
# and ahead of what they are in. None where they are many.
def order_of_few(whole, parts_of):
    order = []
    ahead = [whole]
    while len(ahead) > 0:
        here = ahead.pop()
        parts = parts_of(here)
        order.append((here, len(parts)))
        ahead.extend(parts)
        if len(order) > FEW:
            return None
    return order


# Those done stand with their depth.
def made_of_many(whole, parts_of, made):
    met = Met()
    done = []
    ahead = [(whole, None)]
    while len(ahead) > 0:
        task = ahead.pop()
        here = task[0]
        if task[1] is not None:
            parts = taken(done, task[1])
            answer = (made(here, [part[0] for part in parts]), 1 + max([part[1] for part in parts]))
            met.keep(here, answer)
            done.append(answer)
            continue
        parts = parts_of(here)
        answer = (made(here, []), 1) if len(parts) == 0 else met.answer_for(here)
        if answer is not None:
            done.append(answer)
        else:
            ahead.append((here, len(parts)))
            ahead.extend([(part, None) for part in reversed(parts)])
    return done[0][0]


def taken(done, many):
    parts = []
    for number in range(many):
        parts.append(done.pop())
    parts.reverse()
    return parts


# What was made of the parts met so far. Python compares a tuple with itself at once, and unlike tuples, where they are
# built of the same ones, by one part after another inwards.
class Met:
    def __init__(self):
        self.by_reach = {}

    def keep(self, one, answer):
        if answer[1] <= DEEPEST:
            self.by_reach.setdefault(reach(one), []).append((one, answer))

    def answer_for(self, one):
        if len(self.by_reach) > 0:
            for other, answer in self.by_reach.get(reach(one), []):
                if other == one:
                    return answer
        return None


# The words that are met in a tuple by its first parts alone, and by its last alone: the same for the same ones, and
# unlike for most others. What is too deep to be kept is not walked to its end.
def reach(one):
    return (reach_by(one, 0), reach_by(one, -1))


def reach_by(one, number):
    words = []
    here = one
    parts = tuples_in(here)
    while len(parts) > 0 and len(words) <= DEEPEST:
        words.append(len(here) if isinstance(here[0], tuple) else here[0])
        here = parts[number]
        parts = tuples_in(here)
    return (tuple(words), here if len(parts) == 0 else ())


def tuples_in(one):
    return [part for part in one if isinstance(part, tuple)]


# Two tuples have the same number just where they are the same, and what a tuple is built of has lower numbers. What is
# put by has a number below nought, and is looked into only when it is taken up.
class Shelf:
    def __init__(self):
        self.numbers = {}
        self.stored = []
        self.parts = []
        self.waiting = []

    # In kinds, programs and things the parts stand at the end.
    def laid(self, one):
        def made(here, numbers):
            return self.numbered(here[:len(here) - len(numbers)], tuple(numbers))

        return made_of_parts(one, tuples_in, made)

    # Most kinds are nested so deep at most, and are sooner laid so.
    def laid_kind(self, kind, deep=3):
        if len(kind) == 1:
            return self.numbered(kind, ())
        if deep == 0:
            return self.laid(kind)
        return self.built(kind[0], self.laid_kind(kind[1], deep - 1), self.laid_kind(kind[2], deep - 1))

    def built(self, word, first, second):
        return self.numbered((word,), (first, second))

    def numbered(self, front, numbers):
        key = (front, numbers)
        number = self.numbers.get(key)
        if number is None:
            number = len(self.stored)
            self.numbers[key] = number
            self.stored.append(front + tuple([self.stored[part] for part in numbers]))
            self.parts.append(numbers)
        return number

    def put_by(self, kind):
        self.waiting.append((kind, None))
        return -len(self.waiting)

    def taken_up(self, number):
        if number >= 0:
            return number
        waited = self.waiting[-1 - number]
        if waited[1] is None:
            waited = (waited[0], self.laid_kind(waited[0]))
            self.waiting[-1 - number] = waited
        return waited[1]

    def tuple_at(self, number):
        return self.stored[number]

    def word_at(self, number):
        return self.stored[number][0]

    def within(self, number):
        return self.parts[number]

    # What has the numbers from 0 on: the front of each, and the numbers of its parts.
    def all_laid(self):
        return tuple(list(self.numbers))


# What is told may be far deeper than Python itself compares. Where the same parts stand in both again and again, there
# is no end to walking them, and they are compared on a shelf.
def are_alike(one, other):
    ahead = [(one, other)]
    for turn in range(FEW):
        if len(ahead) == 0:
            return True
        here = ahead.pop()
        if isinstance(here[0], tuple) and isinstance(here[1], tuple):
            if len(here[0]) != len(here[1]):
                return False
            ahead.extend(list(zip(here[0], here[1])))
        elif here[0] != here[1]:
            return False
    shelf = Shelf()
    return shelf.laid(one) == shelf.laid(other)
