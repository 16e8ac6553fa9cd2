"""Reckonings of the tests' own, apart from the program: plain sums, tables and searches."""

import bisect
import functools

from squareleads.errors import LeadError

KINDS = (0, 1)
MILLION = 1000000

# What is no whole number at all, True and False first among them.
NO_NUMBERS = (True, False, None, "", "1", b"1", [], [1], (), (1,), {}, {1: 1}, {1}, object(), int)
HUGE = 10 ** 5000


def plain_shape(kind, root):
    """Add a shape up step by step."""
    total = 0
    for step in range(1, root + 1):
        total += root if kind == 0 else step
    return total


def shapes_to(kind, most):
    """List the shapes of the roots from 0 on, the first one above the most too."""
    found = [0]
    grows = 1
    while found[-1] <= most:
        found.append(found[-1] + grows)
        grows += 2 if kind == 0 else 1
    return found


SHAPES = (shapes_to(0, MILLION), shapes_to(1, MILLION))


def plain_making(kind, number, roots):
    """Go down the list as the words of point 2 go."""
    left = number
    ahead = None
    for root in roots:
        if root < 1 or (ahead is not None and root > ahead) or root >= len(SHAPES[kind]):
            return False
        left -= SHAPES[kind][root]
        ahead = root
    return left == 0


def plain_led(kind, number):
    """Look the greatest root up in the table each time."""
    roots = []
    while number:
        roots.append(bisect.bisect_right(SHAPES[kind], number) - 1)
        number -= SHAPES[kind][roots[-1]]
    return roots


@functools.cache
def plain_steps(kind):
    """List the steps of all numbers from 0 to 10000."""
    return [len(plain_led(kind, number)) for number in range(10001)]


@functools.cache
def plain_fewest(kind):
    """List how few shapes make each number from 0 to 1000000, out of the sums of all shapes."""
    fewest = bytearray(MILLION + 1)
    # A bit for each number that is the sum of just so many shapes.
    sums = 1
    for many in range(1, 5):
        more = 0
        for worth in SHAPES[kind][1:]:
            more |= sums << worth
        sums = more & ((1 << (MILLION + 1)) - 1)
        for number, bit in enumerate(reversed(bin(sums)[2:])):
            if bit == "1" and number and not fewest[number]:
                fewest[number] = many
    return fewest


@functools.cache
def sieve():
    """Mark the primes to 4000001, the greatest number that is asked for them, by crossing out all multiples."""
    marks = bytearray([1]) * (4 * MILLION + 2)
    marks[0] = marks[1] = 0
    for number in range(2, 2001):
        if marks[number]:
            marks[2 * number::number] = bytes(len(range(2 * number, len(marks), number)))
    return marks


def plain_prime(number):
    """Look the number up among the primes."""
    return number >= 0 and sieve()[number] == 1


def plain_why(kind, number, many, why):
    """Tell whether the why holds, by the words of point 5."""
    text, *told = why
    if text == "one":
        return many == 1
    if text == "behind":
        root = told[0]
        if many != 2 or not 0 <= root < len(SHAPES[kind]) - 1:
            return False
        return SHAPES[kind][root] < number < SHAPES[kind][root + 1]
    if text == "prime":
        prime, times = told
        whole = number if kind == 0 else 4 * number + 1
        if many != 3 or not 2 <= prime <= whole or not 1 <= times <= 30:
            return False
        if not plain_prime(prime) or prime % 4 != 3 or times % 2 != 1:
            return False
        return whole % prime ** times == 0 and whole % prime ** (times + 1) != 0
    fours, eights = told
    if kind != 0 or many != 4 or not 0 <= fours <= 30 or eights < 0:
        return False
    return 4 ** fours * (8 * eights + 7) == number


def plain_few(kind, number, roots, why):
    """Tell whether a Few of these fields is right, by the words of point 5."""
    if not plain_making(kind, number, roots) or len(roots) != plain_fewest(kind)[number]:
        return False
    return plain_why(kind, number, len(roots), why)


def plain_judge(kind, number, roots):
    """Give ("makes", more) or ("fails", step), by the words of point 6."""
    left = number
    for at, root in enumerate(roots):
        if root < 1:
            return "fails", at
        if at > 0 and root > roots[at - 1]:
            return "fails", at
        if root >= len(SHAPES[kind]) or SHAPES[kind][root] > left:
            return "fails", at
        left -= SHAPES[kind][root]
    if left:
        return "fails", len(roots)
    return "makes", len(roots) - plain_fewest(kind)[number]


def assert_refused(case, refusal, asked, *given):
    """Check that the call is refused by this very class, which is caught by every name above it."""
    for caught in (refusal, LeadError, ValueError):
        with case.assertRaises(caught) as seen:
            asked(*given)
        case.assertIs(type(seen.exception), refusal)
