"""How many steps a closed program takes, told without going: point 16 of the document.

What stands for a name is reckoned when the running first comes upon it. Each time after that its steps are added as
they are known, and the running is taken up where it ended.
"""

from evenkinds.programs import inner
from evenkinds.running import WITHIN, Bound, behind_form, behind_let


def steps_of(program):
    reckoner = Reckoner(program)
    while reckoner.here is not None:
        reckoner.turn()
    return reckoner.reckoned


# Waiting are forms for what their first inner one comes to, and names for what stands for them, with the number of
# steps that were reckoned when they were come upon.
class Reckoner:
    def __init__(self, program):
        self.here = Bound(program, ())
        self.waiting = []
        self.reckoned = 0

    def turn(self):
        here = self.here
        word = here.program[0]
        if word == "name":
            self.come_upon(here.around[here.program[1]])
        elif word in WITHIN:
            self.waiting.append(("form", here, None))
            self.here = Bound(inner(here.program)[0], here.around)
        elif word == "let":
            self.reckoned = self.reckoned + 1
            self.here = behind_let(here)
        else:
            self.come_to(here)

    def come_upon(self, bound):
        if bound.end is None:
            self.waiting.append(("name", bound, self.reckoned))
            self.here = bound
        else:
            self.reckoned = self.reckoned + bound.steps
            self.come_to(bound.end)

    def come_to(self, end):
        self.here = None
        while self.here is None and len(self.waiting) > 0:
            waited = self.waiting.pop()
            bound = waited[1]
            if waited[0] == "name":
                bound.end = end
                bound.steps = self.reckoned - waited[2]
            else:
                self.reckoned = self.reckoned + 1
                self.here = behind_form(bound, end)
