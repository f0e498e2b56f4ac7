"""The ring that a stand comes into: the rounds ahead of it, and after how many it comes round."""

from longrounds.making import ladder
from longrounds.making import rungs_for
from longrounds.making import table_of
from longrounds.numbers import least_divisor
from longrounds.tables import turned


def without_prime(n, divisor):
    while n % divisor == 0:
        n = n // divisor
    return n


def primes_of(n):
    primes = []
    while n > 1:
        # The least number above 1 that divides is a prime itself.
        primes.append(least_divisor(n))
        n = without_prime(n, primes[-1])
    return primes


def parts_of_rings(P, many):
    # Each ring's count of rounds divides the product of these. The boxes and a 1 beside them
    # are turned, by each round, into sums of themselves. The polynomial of that is of degree
    # many + 1, and x - 1 divides it, as the 1 stays. So what divides it and is no product
    # itself is of degree k, at most many, and alone it makes rings whose count divides
    # P ** k - 1: this is P - 1 times the sum of the powers of P below P ** k. Where it divides
    # e times over, e at most many + 1, the count is multiplied by a power of P, and that is
    # at most the least one that is not below e.
    parts = [P - 1]
    powers = 1
    for k in range(many):
        parts.append(powers)
        powers = powers * P + 1
    longer = 1
    while longer < many + 1:
        parts.append(P)
        longer = longer * P
    return parts


def product(parts):
    whole = 1
    for part in parts:
        whole = whole * part
    return whole


def primes_of_parts(parts):
    found = []
    for part in parts:
        found.extend(primes_of(part))
    return sorted(set(found))


def climbed(P, rungs, n, stand):
    for rung in rungs_for(rungs, n):
        stand = turned(P, rung, stand)
    return stand


def shortest(P, rungs, n, primes, stand):
    # The counts that lead back to the stand are the multiples of the least one. So where no
    # prime can be taken out of n any more, such that what is left leads back, it is that one.
    for prime in primes:
        while n % prime == 0 and climbed(P, rungs, n // prime, stand) == stand:
            n = n // prime
    return n


def tail(P, rungs, r, stand):
    t = 0
    while climbed(P, rungs, r, stand) != stand:
        stand = turned(P, rungs[0], stand)
        t = t + 1
    return t


def ring_of_table(P, table, stand):
    many = len(table)
    parts = parts_of_rings(P, many)
    whole = product(parts)
    primes = primes_of_parts(parts)
    rungs = ladder(P, table, whole)
    # The tail is never longer than there are boxes, so behind so many rounds the ring is come to.
    r = shortest(P, rungs, whole, primes, climbed(P, rungs, many, stand))
    return (tail(P, rungs, r, stand), r, [prime for prime in primes if r % prime == 0])


def ring(P, many, items, stand):
    return ring_of_table(P, table_of(P, many, items), stand)
