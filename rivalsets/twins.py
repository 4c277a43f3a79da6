"""TWINs: a family and its OTHER, kept together through deeds."""

from rivalsets.errors import NoSteps
from rivalsets.others import other_family
from rivalsets.stepchecker import is_deed
from rivalsets.stepping import behind_steps, steps_for


class Twin:
    """A family and its OTHER, as they are by now, and as they were ahead of each deed that is not undone."""

    def __init__(self, family):
        self.states = [(family, other_family(family))]

    def family(self):
        """The family by now."""
        return self.states[-1][0]

    def other(self):
        """The OTHER by now."""
        return self.states[-1][1]

    def count(self):
        """How many deeds are done and not undone."""
        return len(self.states) - 1

    def do(self, thing):
        """Does a DEED and tells STEPS for it; NoSteps where the thing is no DEED."""
        one, other = self.states[-1]
        if not is_deed(one[0], thing):
            raise NoSteps("deed", -1)
        steps = steps_for(one, other, thing)
        self.states.append(behind_steps(one, other, thing, steps))
        return steps

    def back(self):
        """Undoes the last deed that isn't undone and tells True; False where there is none."""
        if not self.count():
            return False
        self.states.pop()
        return True
