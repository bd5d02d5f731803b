"""Programs run by going on: point 15 of the document."""

from evenkinds.names import all_parts, lifted, put_in, with_parts
from evenkinds.programs import inner, with_inner

# Where such a one is no step itself, going on goes on within the first of its inner ones.
WITHIN = ("give", "first", "second", "case", "never")


def going_on(program):
    here = program
    place = ()
    while True:
        found = step_of(here)
        if found is not None:
            return (place, found[0], here, found[1], None)
        if here[0] not in WITHIN:
            return None
        here = inner(here)[0]
        place = place + (0,)


# The word and the other of a step at the whole.
def step_of(program):
    word = program[0]
    if word == "let":
        return (word, put_in(program[2], program[1]))
    if word not in WITHIN or word == "never":
        return None
    asked = program[1]
    if word == "give" and asked[0] == "way":
        return (word, put_in(asked[2], program[2]))
    if word == "first" and asked[0] == "pair":
        return (word, asked[1])
    if word == "second" and asked[0] == "pair":
        return (word, asked[2])
    if word == "case" and asked[0] == "left":
        return ("left", put_in(program[2], asked[2]))
    if word == "case" and asked[0] == "right":
        return ("right", put_in(program[3], asked[2]))
    return None


# Programs grow as they are run, so nothing is put in on the way: what stands for a name is kept beside the program,
# and all is put in once, at the end.
def run(program, most=10000):
    runner = Runner(program, most)
    while runner.turn():
        pass
    here = put_together(runner.here)
    for form in reversed(runner.forms):
        bare = put_together(Bound(with_first(form.program, ("star",)), form.around))
        here = with_first(bare, here)
    return (here, runner.gone)


def with_first(program, first):
    return with_inner(program, [first] + inner(program)[1:])


# A program with what stands for the first of its names; all others are names of the program that is run. Once they
# are known: all of it put together, with copies of that under further names, and what it comes to in how many steps.
class Bound:
    def __init__(self, program, around):
        self.program = program
        self.around = around
        self.together = None
        self.copies = {}
        self.has_names = False
        self.end = None
        self.steps = 0


# The forms are those gone into, each waiting for what its first inner one comes to.
class Runner:
    def __init__(self, program, most):
        self.here = Bound(program, ())
        self.forms = []
        self.gone = 0
        self.most = most

    # Only a step counts: coming upon a name and going into a form leave the program as it is.
    def turn(self):
        here = self.here
        if here.program[0] == "name" and here.program[1] < len(here.around):
            self.here = here.around[here.program[1]]
        elif here.program[0] in WITHIN:
            self.forms.append(here)
            self.here = Bound(inner(here.program)[0], here.around)
        else:
            return self.gone < self.most and self.step()
        return True

    def step(self):
        other = behind_let(self.here)
        if other is None and len(self.forms) > 0:
            other = behind_form(self.forms[-1], self.here)
            if other is not None:
                self.forms.pop()
        if other is None:
            return False
        self.here = other
        self.gone = self.gone + 1
        return True


def behind_let(here):
    if here.program[0] != "let":
        return None
    return Bound(here.program[2], (Bound(here.program[1], here.around),) + here.around)


# What the form goes on with when its first inner one has come to an end; None where that is no step.
def behind_form(form, end):
    word = form.program[0]
    if word == "give" and end.program[0] == "way":
        return Bound(end.program[2], (Bound(form.program[2], form.around),) + end.around)
    if word == "first" and end.program[0] == "pair":
        return Bound(end.program[1], end.around)
    if word == "second" and end.program[0] == "pair":
        return Bound(end.program[2], end.around)
    if word == "case" and end.program[0] in ("left", "right"):
        branch = form.program[2] if end.program[0] == "left" else form.program[3]
        return Bound(branch, (Bound(end.program[2], end.around),) + form.around)
    return None


# What stands for names has names for which something stands in turn, so the innermost are put together first; by a
# list, since they may lie far deeper than calls may go.
def put_together(bound):
    ahead = [bound]
    while len(ahead) > 0:
        here = ahead[-1]
        waiting = [one for one in names_bound(here) if one.together is None]
        if len(waiting) > 0:
            ahead.extend(waiting)
        else:
            fill(ahead.pop())
    return bound.together


def names_bound(bound):
    many = len(bound.around)
    numbers = [part[1] - under for part, under in all_parts(bound.program) if part[0] == "name"]
    return [bound.around[number] for number in sorted(set(numbers)) if 0 <= number and number < many]


def fill(bound):
    many = len(bound.around)

    def changed(part, under):
        if part[0] != "name" or part[1] < under:
            return None
        if part[1] - under >= many:
            return ("name", part[1] - many)
        return standing(bound.around[part[1] - under], under)

    bound.together = with_parts(bound.program, changed)
    bound.has_names = any([one.has_names for one in names_bound(bound)]) or speaks_of_others(bound)


# A closed program is the same under further names, and may be too large to be walked each time.
def standing(bound, under):
    if not bound.has_names:
        return bound.together
    if under not in bound.copies:
        bound.copies[under] = lifted(bound.together, under, 0)
    return bound.copies[under]


def speaks_of_others(bound):
    many = len(bound.around)
    parts = all_parts(bound.program)
    return any([part[0] == "name" and part[1] - under >= many for part, under in parts])
