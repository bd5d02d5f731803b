"""Programs, their inner ones, places and kinds: points 5 to 8 of the document."""

from evenkinds.errors import NoKind
from evenkinds.shelf import Shelf, made_of_parts

# Where the inner ones begin in a program's tuple; they reach to its end.
INNER_FROM = {
    "name": 2,
    "star": 1,
    "pair": 1,
    "first": 1,
    "second": 1,
    "left": 2,
    "right": 2,
    "case": 1,
    "way": 2,
    "give": 1,
    "let": 1,
    "never": 2,
}

# The inner ones, by number, that stand under one name more.
UNDER_ONE_MORE = {"case": (1, 2), "way": (0,), "let": (1,)}


def inner(program):
    return list(program[INNER_FROM[program[0]]:])


def with_inner(program, parts):
    return program[:INNER_FROM[program[0]]] + tuple(parts)


def names_more(program, number):
    return 1 if number in UNDER_ONE_MORE.get(program[0], ()) else 0


def at_place(program, place):
    here = program
    for number in place:
        parts = inner(here)
        if number < 0 or number >= len(parts):
            return None
        here = parts[number]
    return here


def replaced(program, place, other):
    above = []
    here = program
    for number in place:
        above.append((here, number))
        here = inner(here)[number]
    answer = other
    for outer, number in reversed(above):
        parts = inner(outer)
        parts[number] = answer
        answer = with_inner(outer, parts)
    return answer


# A program as it is gone through: one that stands in several places may be one node that several others hold. Ways is
# how many ways lie within one another in it. Its kind's number is known once it was asked for, and is below nought
# where it has several in several places.
class Node:
    def __init__(self, program, inside, number):
        self.program = program
        self.inside = inside
        self.number = number
        self.holders = 0
        self.ways = 0
        self.used = None
        self.kind = None


# The nodes made so far give each new one its number.
def noded(program, nodes):
    def made(here, inside):
        node = Node(here, inside, len(nodes))
        nodes.append(node)
        for part in inside:
            part.holders = part.holders + 1
            node.ways = max(node.ways, part.ways)
        if here[0] == "way":
            node.ways = node.ways + 1
        return node

    return made_of_parts(program, inner, made)


# The numbers of the names that it speaks of, but for its own inner ones'; told only when asked for, since they may be
# many in each of many parts.
def used_names(node):
    ahead = [node] if node.used is None else []
    while len(ahead) > 0:
        here = ahead[-1]
        waiting = [part for part in here.inside if part.used is None]
        if len(waiting) > 0:
            ahead.extend(waiting)
        else:
            here.used = used_by_parts(here)
            ahead.pop()
    return node.used


def used_by_parts(node):
    if node.program[0] == "name":
        return (node.program[1],)
    numbers = []
    for number, part in enumerate(node.inside):
        less = names_more(node.program, number)
        numbers.extend([name - less for name in part.used if name >= less])
    return tuple(sorted(set(numbers)))


# Programs that are told may be far deeper than 60, so the way back up is kept in a list and not by calls in calls.
# Each part is made of what its inner ones were made to, a node that several hold but once where the names that it
# speaks of are the same. The name 0 is the last of those known, so that a new one is put on and taken off at the end.
def folded(node, known, named, made):
    begun = [node]
    answers = [[]]
    before = {}
    while True:
        here = begun[-1]
        number = len(answers[-1])
        key = known_for(here, known) if here.holders > 1 else None
        if key not in before and number < len(here.inside):
            if names_more(here.program, number) == 1:
                known.append(named(here.program, answers[-1], number))
            begun.append(here.inside[number])
            answers.append([])
            continue
        answer = before[key] if key in before else made(here, answers[-1], known)
        if key is not None:
            before[key] = answer
        begun.pop()
        answers.pop()
        if len(begun) == 0:
            return answer
        if names_more(begun[-1].program, len(answers[-1])) == 1:
            known.pop()
        answers[-1].append(answer)


# The node with what is known of the names that it speaks of, where they are there.
def known_for(node, known):
    last = len(known) - 1
    return (node.number, tuple([known[last - name] for name in used_names(node) if name >= 0 and name <= last]))


def kind_of(program, names):
    shelf = Shelf()
    return shelf.tuple_at(shelved_kind(program, shelved_names(names, shelf), shelf))


# On one shelf, since two kinds that were told apart from one another could be too large to be compared.
def are_of_one_kind(one, other, names):
    shelf = Shelf()
    known = shelved_names(names, shelf)
    return shelved_kind(one, known, shelf) == shelved_kind(other, known, shelf)


# A name's kind may be large, and most are never asked for.
def shelved_names(names, shelf):
    return [shelf.put_by(kind) for kind in reversed(names)]


def shelved_kind(program, known, shelf):
    return kind_of_node(noded(program, []), known, shelf)


def kind_of_node(node, known, shelf):
    def named(here, kinds, number):
        return new_name(here, kinds, number, shelf)

    def made(here, kinds, known_here):
        kind = kind_by_parts(here.program, kinds, known_here, shelf)
        here.kind = kind if here.kind is None or here.kind == kind else -1
        return kind

    return folded(node, known, named, made)


# The kind of a program, on the shelf, by those of its inner ones.
def kind_by_parts(program, kinds, known, shelf):
    return BY_WORD[program[0]](program, kinds, known, shelf)


def new_name(program, kinds, number, shelf):
    if program[0] == "way":
        return shelf.laid_kind(program[1])
    if program[0] == "let":
        return kinds[0]
    return halves_of("either", kinds[0], shelf)[number - 1]


def halves_of(word, kind, shelf):
    if shelf.word_at(kind) != word:
        raise NoKind()
    return shelf.within(kind)


def kind_of_name(program, kinds, known, shelf):
    number = program[1]
    if number < 0 or number >= len(known):
        raise NoKind()
    return shelf.taken_up(known[len(known) - 1 - number])


def kind_of_star(program, kinds, known, shelf):
    return shelf.numbered(("one",), ())


def kind_of_pair(program, kinds, known, shelf):
    return shelf.built("both", kinds[0], kinds[1])


def kind_of_first(program, kinds, known, shelf):
    return halves_of("both", kinds[0], shelf)[0]


def kind_of_second(program, kinds, known, shelf):
    return halves_of("both", kinds[0], shelf)[1]


def kind_of_left(program, kinds, known, shelf):
    return shelf.built("either", kinds[0], shelf.laid_kind(program[1]))


def kind_of_right(program, kinds, known, shelf):
    return shelf.built("either", shelf.laid_kind(program[1]), kinds[0])


def kind_of_case(program, kinds, known, shelf):
    if kinds[1] != kinds[2]:
        raise NoKind()
    return kinds[1]


def kind_of_way(program, kinds, known, shelf):
    return shelf.built("way", shelf.laid_kind(program[1]), kinds[0])


def kind_of_give(program, kinds, known, shelf):
    ends = halves_of("way", kinds[0], shelf)
    if ends[0] != kinds[1]:
        raise NoKind()
    return ends[1]


def kind_of_let(program, kinds, known, shelf):
    return kinds[1]


def kind_of_never(program, kinds, known, shelf):
    if shelf.word_at(kinds[0]) != "none":
        raise NoKind()
    return shelf.laid_kind(program[1])


BY_WORD = {
    "name": kind_of_name,
    "star": kind_of_star,
    "pair": kind_of_pair,
    "first": kind_of_first,
    "second": kind_of_second,
    "left": kind_of_left,
    "right": kind_of_right,
    "case": kind_of_case,
    "way": kind_of_way,
    "give": kind_of_give,
    "let": kind_of_let,
    "never": kind_of_never,
}
