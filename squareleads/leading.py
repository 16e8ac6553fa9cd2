"""How numbers are led down: by the greatest root each time."""

from squareleads.shapes import SQUARES, shape


def greatest_root(kind, number):
    """Give the greatest root whose shape isn't above the number, 0 if there is none."""
    low = 0
    high = 1
    while shape(kind, high) <= number:
        low = high
        high *= 2
    while high - low > 1:
        middle = (low + high) // 2
        if shape(kind, middle) <= number:
            low = middle
        else:
            high = middle
    return low


def lead_down(kind, number):
    """Give the making that takes the greatest root each time."""
    roots = []
    left = number
    while left > 0:
        root = greatest_root(kind, left)
        roots.append(root)
        left -= shape(kind, root)
    return roots


def steps_to(kind, bound):
    """Give in how many steps each number from 0 to the bound is led down."""
    steps = [0]
    root = 1
    while len(steps) <= bound:
        gap = shape(kind, root + 1) - shape(kind, root)
        # From one shape to the next the same root leads, so only what is left differs.
        for left in range(gap):
            steps.append(steps[left] + 1)
        root += 1
    return steps[:bound + 1]


def least_of_steps(kind, many):
    """Give the least number of all that is led down in so many steps."""
    least = 1
    for step in range(1, many):
        # What is left behind a root is at most twice the root for squares, the root itself for triangles;
        # so this is the least root that can leave the least number of one step less.
        root = (least + 1) // 2 if kind == SQUARES else least
        least += shape(kind, root)
    return least
