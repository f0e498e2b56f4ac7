import fractions
import unittest

from longrounds.errors import LongError, Lossy, NoNumber, NoPrime, NoProgram, NoText, TooLong
from longrounds.numbers import back, is_whole, on, prime

SIXTY = int("987654321" * 6 + "123456")
NINES = 10**60 - 1

NOT_WHOLE = (
    True, False, None, "", "7", "seven", b"7", 7.0, 0.0, 3.5, float("inf"), float("nan"), 7j,
    fractions.Fraction(7), (), (7,), [], [7], {}, {7: 7}, set(), {7}, frozenset({7}), range(7),
    object(), int, bool, len, Exception(7),
)


class Unshowable:
    def __repr__(self):
        raise RuntimeError("not to be shown")

    __str__ = __repr__

    def __eq__(self, other):
        raise RuntimeError("not to be compared")

    __hash__ = None


def primes_by_the_document():
    return [n for n in range(3, 10000) if all(n % d for d in range(2, min(n, 100)))]


class WholeTest(unittest.TestCase):
    def test_whole_numbers(self):
        for n in (0, 1, 2, -1, 7, -7, 255, 256, 257, 10**30, -(10**30), SIXTY, -SIXTY, NINES, -NINES):
            self.assertIs(is_whole(n), True, n)

    def test_truths_are_no_whole_numbers(self):
        self.assertIs(is_whole(True), False)
        self.assertIs(is_whole(False), False)

    def test_other_things_are_no_whole_numbers(self):
        for thing in NOT_WHOLE + (Unshowable(),):
            self.assertIs(is_whole(thing), False, type(thing))


class PrimeTest(unittest.TestCase):
    def refused(self, thing):
        with self.assertRaises(NoPrime) as taken:
            prime(thing)
        self.assertIsInstance(taken.exception, LongError)
        self.assertIsInstance(taken.exception, ValueError)
        self.assertNotIsInstance(taken.exception, (NoNumber, NoProgram, TooLong, Lossy, NoText))

    def test_the_sieve_of_these_tests(self):
        primes = primes_by_the_document()
        self.assertEqual(primes[:8], [3, 5, 7, 11, 13, 17, 19, 23])
        self.assertEqual(primes[-3:], [9949, 9967, 9973])
        self.assertEqual(len(primes), 1228)

    def test_every_prime_is_told_as_it_was_handed_in(self):
        for n in primes_by_the_document():
            self.assertIs(prime(n), n)

    def test_every_other_number_near_is_refused(self):
        primes = set(primes_by_the_document())
        for n in range(-50, 10200):
            if n not in primes:
                self.refused(n)

    def test_the_edges_are_refused(self):
        for n in (0, 1, 2, -1, -2, -3, -5, -7, -9973, 9998, 9999, 10000):
            self.refused(n)

    def test_primes_beyond_the_greatest_one_are_refused(self):
        for n in (10007, 10009, 10037, 104729, 999983, 2**31 - 1, 2**61 - 1, 2**127 - 1):
            self.refused(n)

    def test_products_and_squares_are_refused(self):
        for n in (4, 6, 9, 15, 25, 49, 91, 97 * 97, 97 * 101, 89 * 101, 3 * 3331, 27, 6561, 7**4):
            self.refused(n)

    def test_great_numbers_are_refused(self):
        for n in (SIXTY, -SIXTY, NINES, 10**60 + 7, 10**5000):
            self.refused(n)

    def test_things_that_are_no_whole_numbers_are_refused(self):
        for thing in NOT_WHOLE + (Unshowable(),):
            self.refused(thing)


GREAT = (10**30, 10**30 + 1, SIXTY, SIXTY + 1, NINES, NINES - 1)


class OnTest(unittest.TestCase):
    def test_numbers_by_hand(self):
        told = [on(7, n) for n in (-15, -14, -8, -7, -1, 0, 1, 6, 7, 8, 13, 14, 15)]
        self.assertEqual(told, [6, 0, 6, 0, 6, 0, 1, 6, 0, 1, 6, 0, 1])
        self.assertEqual(on(9973, 9973), 0)
        self.assertEqual(on(9973, 9972), 9972)
        self.assertEqual(on(9973, -1), 9972)
        self.assertEqual(on(3, -1), 2)
        self.assertEqual(on(3, 10**59), 1)
        self.assertEqual(on(3, -(10**59)), 2)

    def test_the_number_is_on_the_wheel_and_differs_by_a_multiple(self):
        for P in (3, 5, 101, 9973):
            for n in GREAT + tuple(-n for n in GREAT) + tuple(range(-2 * P, 2 * P + 1)):
                told = on(P, n)
                self.assertIs(type(told), int)
                self.assertIn(told, range(P))
                self.assertEqual((n - told) % P, 0)

    def test_multiples_come_to_nothing(self):
        for P in (3, 9973):
            for times in (-(10**55), -3, -1, 0, 1, 2, 10**55 + 3):
                self.assertEqual(on(P, times * P), 0)
                self.assertEqual(on(P, times * P + 1), 1)
                self.assertEqual(on(P, times * P - 1), P - 1)


class BackTest(unittest.TestCase):
    def told_right(self, P, n):
        told = back(P, n)
        self.assertIs(type(told), int)
        self.assertIn(told, range(1, P))
        self.assertEqual(told * n % P, 1, (P, n))

    def test_numbers_by_hand(self):
        self.assertEqual([back(7, n) for n in range(1, 7)], [1, 4, 5, 2, 3, 6])
        self.assertEqual([back(3, n) for n in (1, 2, 4, 5, -1, -2)], [1, 2, 1, 2, 2, 1])
        self.assertEqual(back(9973, 9972), 9972)
        self.assertEqual(back(9973, 2), 4987)

    def test_every_number_of_some_wheels(self):
        for P in (3, 5, 7, 11, 101, 9949, 9973):
            for n in range(1, P):
                self.told_right(P, n)

    def test_some_numbers_of_every_wheel(self):
        for P in primes_by_the_document():
            for n in (1, 2, P // 2, P - 2, P - 1, P + 1, -1):
                self.told_right(P, n)

    def test_great_numbers_and_numbers_below_nothing(self):
        for P in (3, 5, 101, 9973):
            for n in GREAT + tuple(-n for n in GREAT) + tuple(range(-2 * P, 2 * P + 1)):
                if n % P:
                    self.told_right(P, n)

    def test_what_comes_to_nothing_is_refused(self):
        for P in (3, 7, 101, 9973):
            for times in (0, 1, -1, 2, -2, P, -P, 10**55, -(10**55)):
                with self.assertRaises(NoNumber) as taken:
                    back(P, times * P)
                self.assertIsInstance(taken.exception, LongError)
                self.assertNotIsInstance(taken.exception, (NoPrime, NoProgram, TooLong, Lossy, NoText))
