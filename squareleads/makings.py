"""The fewest roots that make a number, and where a list of roots fails to make one."""

from squareleads.leading import greatest_root
from squareleads.shapes import SQUARES, shape


def two_roots(kind, number):
    """Give a making of two roots, or an empty list if there is none."""
    high = greatest_root(kind, number)
    low = 1
    while low <= high:
        found = shape(kind, high) + shape(kind, low)
        if found == number:
            return [high, low]
        if found > number:
            high -= 1
        else:
            low += 1
    return []


def three_roots(kind, number):
    """Give a making of three roots, or an empty list if there is none."""
    for root in range(greatest_root(kind, number), 0, -1):
        others = two_roots(kind, number - shape(kind, root))
        if others:
            return sorted([root] + others, reverse=True)
    return []


def four_squares(number):
    """Give a making of four squares of a number of rest 7 by 8."""
    root = greatest_root(SQUARES, number)
    if root % 2 == 0:
        # Without an odd square the rest by 8 is 6, and three squares always make such a number.
        root -= 1
    others = three_roots(SQUARES, number - shape(SQUARES, root))
    return sorted([root] + others, reverse=True)


def fewest_roots(kind, number):
    """Give a making of as few roots as can be, the empty list for 0."""
    if number == 0:
        return []
    if kind == SQUARES and number % 4 == 0:
        # At most three squares come to a multiple of four only if all are even; so halving the roots
        # loses no making that could be shorter, and the searches below stay short.
        return [2 * root for root in fewest_roots(kind, number // 4)]
    root = greatest_root(kind, number)
    if shape(kind, root) == number:
        return [root]
    if kind == SQUARES and number % 8 == 7:
        return four_squares(number)
    return two_roots(kind, number) or three_roots(kind, number)


def first_fault(kind, number, roots):
    """Give the count of the first root that can't be, as many as there are if something is left, or None."""
    left = number
    for at, root in enumerate(roots):
        if root < 1 or (at > 0 and root > roots[at - 1]) or shape(kind, root) > left:
            return at
        left -= shape(kind, root)
    return None if left == 0 else len(roots)
