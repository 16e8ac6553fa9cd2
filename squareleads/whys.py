"""Why a number has no making of fewer roots: the tuples that tell it, and whether one holds."""

from squareleads.leading import greatest_root
from squareleads.shapes import SQUARES, is_number, shape

# How many numbers stand behind each text.
NUMBERS_BEHIND = {"one": 0, "behind": 1, "prime": 2, "seven": 2}


def stripped(factor, number):
    """Give how often the factor goes into the number, and what is left of the number then."""
    times = 0
    left = number
    while left % factor == 0:
        left //= factor
        times += 1
    return times, left


def is_prime(number):
    """Tell whether the number is a prime."""
    if number < 2:
        return False
    factor = 2
    while factor * factor <= number:
        if number % factor == 0:
            return False
        factor += 1
    return True


def ground(kind, number):
    """Give the number whose primes tell whether two shapes make the number."""
    return number if kind == SQUARES else 4 * number + 1


def odd_prime(number):
    """Give a prime of rest 3 by 4 that goes in an odd number of times, and how often; one must be there."""
    left = number
    prime = 2
    while prime * prime <= left:
        times, left = stripped(prime, left)
        if prime % 4 == 3 and times % 2 == 1:
            return prime, times
        prime += 1
    # What is left is a prime that goes in once, and no other one is there to choose.
    return left, 1


def why_of(kind, number, many):
    """Give the why of a number whose fewest roots are so many."""
    if many == 1:
        return ("one",)
    if many == 2:
        return ("behind", greatest_root(kind, number))
    if many == 3:
        prime, times = odd_prime(ground(kind, number))
        return ("prime", prime, times)
    fours, left = stripped(4, number)
    return ("seven", fours, left // 8)


def is_why(why):
    """Tell whether it is a tuple of one of the four texts, with as many numbers as belong to it."""
    if not isinstance(why, tuple) or len(why) == 0 or not isinstance(why[0], str):
        return False
    if why[0] not in NUMBERS_BEHIND or len(why) != 1 + NUMBERS_BEHIND[why[0]]:
        return False
    return all([is_number(value) for value in why[1:]])


def behind_holds(kind, number, root):
    """Tell whether the number lies between the shapes of this root and the next one."""
    return root >= 0 and shape(kind, root) < number < shape(kind, root + 1)


def prime_holds(kind, number, prime, times):
    """Tell whether the prime, of rest 3 by 4, goes in just so often, an odd number of times."""
    # Asked first: -1 has rest 3 by 4, too, and would go into the number forever.
    if prime < 2 or prime % 4 != 3 or times % 2 == 0:
        return False
    # Whether it goes in is asked ahead of its factors, so that no huge number is searched for them.
    return stripped(prime, ground(kind, number))[0] == times and is_prime(prime)


def seven_holds(kind, number, fours, eights):
    """Tell whether the number is a power of four times a number of rest 7 by 8, as told."""
    return kind == SQUARES and stripped(4, number) == (fours, 8 * eights + 7)


def why_holds(kind, number, many, why):
    """Tell whether the why shows that no fewer than so many roots make a number from 1 on."""
    if not is_why(why):
        return False
    text = why[0]
    if text == "one":
        return many == 1
    if text == "behind":
        return many == 2 and behind_holds(kind, number, why[1])
    if text == "prime":
        return many == 3 and prime_holds(kind, number, why[1], why[2])
    return many == 4 and seven_holds(kind, number, why[1], why[2])
