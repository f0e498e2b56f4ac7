"""Whole numbers, primes, and numbers on the wheel of a prime."""

from longrounds.errors import NoNumber
from longrounds.errors import NoPrime

LEAST_PRIME = 3
GREATEST_PRIME = 9999


def is_whole(thing):
    # Python counts the truths among the ints; the document does not.
    return isinstance(thing, int) and not isinstance(thing, bool)


def least_divisor(n):
    # A product has a divisor that is not above its root, so none beyond is asked.
    divisor = 2
    while divisor * divisor <= n:
        if n % divisor == 0:
            return divisor
        divisor = divisor + 1
    return n


def is_from(thing, least, most):
    return is_whole(thing) and least <= thing and thing <= most


def is_prime(thing):
    return is_from(thing, LEAST_PRIME, GREATEST_PRIME) and least_divisor(thing) == thing


def prime(thing):
    # The words don't show the thing: it may be anything, and not everything can be shown.
    if not is_prime(thing):
        raise NoPrime("a prime is a whole number from 3 to 9999 that no smaller one above 1 divides")
    return thing


def on(P, n):
    return n % P


def back(P, n):
    number = on(P, n)
    if number == 0:
        raise NoNumber("a number that comes to 0 has no back")
    # number * (P // number) comes to -(P % number), so the back of number is
    # -(P // number) times the back of P % number. That rest is smaller, and
    # never 0, as P is a prime: the walk ends at 1, which is its own back.
    answer = 1
    while number != 1:
        answer = on(P, -answer * (P // number))
        number = P % number
    return answer
