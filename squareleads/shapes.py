"""The two kinds of shapes, the shape of a root, and the makings of a number."""

SQUARES = 0
TRIANGLES = 1


def is_number(value):
    """Tell whether the value is a whole number."""
    # True and False would pass as 1 and 0 otherwise.
    return isinstance(value, int) and not isinstance(value, bool)


def is_kind(value):
    """Tell whether the value is one of the two kinds of shapes."""
    return is_number(value) and value in (SQUARES, TRIANGLES)


def is_root(value):
    """Tell whether the value is a root: a number from 1 on."""
    return is_number(value) and value >= 1


def shape(kind, root):
    """Give the shape of a root, and 0 for the root 0, of either kind."""
    if kind == SQUARES:
        return root * root
    return root * (root + 1) // 2


def together(kind, roots):
    """Give what the shapes of the roots come to together."""
    return sum([shape(kind, root) for root in roots])


def never_rises(numbers):
    """Tell whether no number of the list is greater than the one ahead."""
    for at in range(1, len(numbers)):
        if numbers[at] > numbers[at - 1]:
            return False
    return True


def are_roots(values):
    """Tell whether the values are a list of roots, in any order."""
    return isinstance(values, list) and all([is_root(value) for value in values])


def is_making(kind, number, roots):
    """Tell whether the roots are a making of the number, of shapes of the kind."""
    if not is_kind(kind) or not is_number(number) or not are_roots(roots):
        return False
    return never_rises(roots) and together(kind, roots) == number
