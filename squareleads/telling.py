"""What is told of numbers: how they are led down, the fewest that make them, makings judged."""

from squareleads.answers import Fails, Few, Makes
from squareleads.errors import BadKind, BadMany, BadNumber, BadRoots, BadSpot
from squareleads.leading import lead_down, least_of_steps, steps_to
from squareleads.makings import fewest_roots, first_fault
from squareleads.shapes import is_kind, is_number
from squareleads.whys import why_of

MOST = 1000000
MOST_COUNTED = 10000
MOST_STEPS = 12
MOST_ROOTS = 12


def is_within(value, least, most):
    """Tell whether the value is a number from the least to the most."""
    return is_number(value) and least <= value <= most


def check_kind(kind):
    """Refuse what is no kind of shapes."""
    if not is_kind(kind):
        raise BadKind("a kind is 0, for squares, or 1, for triangles")


def check_number(number, least, most):
    """Refuse what is no number from the least to the most."""
    if not is_within(number, least, most):
        raise BadNumber(f"no number from {least} to {most}")


def check_many(many):
    """Refuse what is no count of steps."""
    if not is_within(many, 1, MOST_STEPS):
        raise BadMany(f"no number from 1 to {MOST_STEPS}")


def check_roots(roots):
    """Refuse what is no list of numbers, or too long a one."""
    if not isinstance(roots, list) or len(roots) > MOST_ROOTS or not all([is_number(root) for root in roots]):
        raise BadRoots(f"no list of at most {MOST_ROOTS} numbers")


def led(kind, number):
    """Give the making of a number from 0 to 1000000 by the greatest root each time."""
    check_kind(kind)
    check_number(number, 0, MOST)
    return lead_down(kind, number)


def how_many(kind, bound, many):
    """Give how many numbers from 1 to the bound are led down in so many steps."""
    check_kind(kind)
    check_number(bound, 0, MOST_COUNTED)
    check_many(many)
    return steps_to(kind, bound).count(many)


def number_by(kind, many, spot):
    """Give, of the numbers to 10000 that are led down in so many steps, the one of the spot."""
    check_kind(kind)
    check_many(many)
    found = [number for number, steps in enumerate(steps_to(kind, MOST_COUNTED)) if steps == many]
    if not is_within(spot, 0, len(found) - 1):
        raise BadSpot("no number stands at this spot")
    return found[spot]


def least_long(kind, many):
    """Give the least number, however great, that is led down in so many steps."""
    check_kind(kind)
    check_many(many)
    return least_of_steps(kind, many)


def fewest(kind, number):
    """Give a making of as few roots as can be of a number from 1 to 1000000, and why."""
    check_kind(kind)
    check_number(number, 1, MOST)
    roots = fewest_roots(kind, number)
    return Few(roots, why_of(kind, number, len(roots)))


def judged(kind, number, roots):
    """Give whether at most 12 roots make a number from 1 to 1000000, or where they fail."""
    check_kind(kind)
    check_number(number, 1, MOST)
    check_roots(roots)
    step = first_fault(kind, number, roots)
    if step is not None:
        return Fails(step)
    return Makes(len(roots) - len(fewest_roots(kind, number)))
