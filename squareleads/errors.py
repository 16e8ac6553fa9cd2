"""The refusals of Squareleads, one class for each kind of wrong input."""


class LeadError(ValueError):
    """What every refusal of this package is."""


class BadKind(LeadError):
    """The kind of shapes is neither squares nor triangles."""


class BadNumber(LeadError):
    """The number, or the bound, is no number within its limits."""


class BadMany(LeadError):
    """The count of steps is no number within its limits."""


class BadSpot(LeadError):
    """No number stands at the spot."""


class BadRoots(LeadError):
    """The roots to judge are no list of numbers, or too many."""


class BadRoot(LeadError):
    """The root is no number from 1 on, or its shape can't be taken off."""


class TooMuch(LeadError):
    """The heap would grow beyond its limit."""
