"""The answers that are told, each with a way to ask whether it is right."""

from squareleads.makings import fewest_roots, first_fault
from squareleads.shapes import is_making, is_number
from squareleads.whys import why_holds


class Answer:
    """What every answer is."""


class Few(Answer):
    """A making of as few roots as can be, and why there is none of fewer."""

    def __init__(self, roots, why):
        self.roots = list(roots)
        self.why = why

    def shows(self, kind, number):
        """Tell whether the roots make the number and the why holds for as many."""
        return is_making(kind, number, self.roots) and why_holds(kind, number, len(self.roots), self.why)


class Makes(Answer):
    """The roots are a making, of so many more than the fewest."""

    def __init__(self, more):
        self.more = more

    def shows(self, kind, number, roots):
        """Tell whether the roots are a making of so many more than the fewest."""
        if not is_number(self.more) or not is_making(kind, number, roots):
            return False
        return self.more == len(roots) - len(fewest_roots(kind, number))


class Fails(Answer):
    """The roots are no making, as seen first at this count."""

    def __init__(self, step):
        self.step = step

    def shows(self, kind, number, roots):
        """Tell whether the roots fail first at this count."""
        return is_number(self.step) and self.step == first_fault(kind, number, roots)
