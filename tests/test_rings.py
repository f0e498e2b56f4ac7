import unittest

from longrounds.making import after, table_of
from longrounds.rings import primes_of, ring
from longrounds.tables import turned
from samples import (
    ADD, COUNTS, DOUBLE, GROW, MOST, PASS_ON, PRIMES, Spread, WheelTest, again, all_stands, cases, done_by_hand,
    walked_by_hand, without_loss,
)

# Each box adds the one ahead of it, as that was, and the first one adds 1.
PILE = (("set", 2, (0, 1, 1, 0)), ("set", 1, (1, 1, 0, 0)), ("set", 0, (1, 0, 0, 1)))
# On the wheel of 7673 its ring has 64535332888 rounds.
LONG = (("set", 0, (1, 0, 1, 0)), ("set", 1, (1, 1, 0, 0)), ("set", 2, (0, 1, 6, 0)))


def primes_by_the_document(n):
    return [d for d in range(2, n + 1) if n % d == 0 and all(d % k for k in range(2, d))]


def primes_by_hand(n):
    primes, d = [], 2
    while n > 1:
        if d * d > n:
            d = n
        if n % d == 0:
            primes.append(d)
            while n % d == 0:
                n //= d
        d += 1
    return primes


def three_before(P, *multiples):
    """The program that moves each box's number one box ahead, the last one's being the sum of these multiples."""
    c, b, a = multiples
    return (
        ("set", 0, (c % P, b % P, a % P, 0)), ("set", 1, (1, 1, 0, 0)), ("set", 0, (-1 % P, 1, 0, 0)),
        ("set", 1, (-1 % P, 1, 0, 0)), ("set", 2, (0, 1, 1, 0)), ("set", 1, (0, -1 % P, 1, 0)),
        ("set", 2, (0, -1 % P, 1, 0)),
    )


class PrimesTest(unittest.TestCase):
    def test_one_has_none(self):
        self.assertEqual(primes_of(1), [])

    def test_primes(self):
        for n in (2, 3, 5, 7, 11, 97, 101, 9967, 9973, 10007, 65537, 1000003, 49999991, 99999971, 99999989):
            self.assertEqual(primes_of(n), [n])

    def test_powers_of_a_prime(self):
        for prime in (2, 3, 5, 7, 13, 97, 101, 463, 9973):
            n = prime
            while n <= 10**8:
                self.assertEqual(primes_of(n), [prime], n)
                n *= prime

    def test_products_of_unlike_primes(self):
        self.assertEqual(primes_of(6), [2, 3])
        self.assertEqual(primes_of(15), [3, 5])
        self.assertEqual(primes_of(2 * 3 * 5 * 7 * 11 * 13 * 17 * 19), [2, 3, 5, 7, 11, 13, 17, 19])
        self.assertEqual(primes_of(2**20 * 3 * 31), [2, 3, 31])
        self.assertEqual(primes_of(12 * 49 * 121), [2, 3, 7, 11])
        self.assertEqual(primes_of(9967 * 9973), [9967, 9973])
        self.assertEqual(primes_of(10**8), [2, 5])
        self.assertEqual(primes_of(10**8 - 1), [3, 11, 73, 101, 137])

    def test_primes_beyond_the_greatest_of_a_wheel(self):
        self.assertEqual(primes_of(2 * 10007), [2, 10007])
        self.assertEqual(primes_of(9973 * 10007), [9973, 10007])
        self.assertEqual(primes_of(2 * 49999991), [2, 49999991])
        self.assertEqual(primes_of(4 * 24999983), [2, 24999983])
        self.assertEqual(primes_of(3 * 33333331), [3, 33333331])

    def test_as_the_document_tells_them(self):
        for n in range(1, 400):
            self.assertEqual(primes_of(n), primes_by_the_document(n), n)

    def test_numbers_of_all_sizes(self):
        spread = Spread(110)
        for below in (10**4, 10**6, 10**8):
            for _ in range(150):
                n = 1 + spread.number(below)
                told = primes_of(n)
                self.assertEqual(told, primes_by_hand(n), n)
                for prime in told:
                    self.assertIs(type(prime), int)
        for P in range(9900, 10000):
            self.assertEqual(primes_of(P * P + P + 1), primes_by_hand(P * P + P + 1))

    def test_the_list_is_the_askers_own(self):
        for n in (1, 2, 97, 360, 10**8):
            told = list(primes_of(n))
            one, other = primes_of(n), primes_of(n)
            self.assertIs(type(one), list)
            self.assertIsNot(one, other)
            one.append("mine")
            self.assertEqual(other, told)
            other.clear()
            self.assertEqual(primes_of(n), told)


class RingTest(WheelTest):
    def told_right(self, P, many, items, stand):
        told = ring(P, many, items, stand)
        self.assertIs(type(told), tuple)
        t, r, primes = told
        self.assertIs(type(t), int)
        self.assertIs(type(r), int)
        self.assertIs(type(primes), list)
        self.assertIn(t, range(many + 1))
        self.assertGreaterEqual(r, 1)
        self.assertEqual(primes, primes_by_hand(r))
        entry = after(P, many, items, t, stand)
        self.assertEqual(after(P, many, items, r, entry), entry)
        self.assertEqual(after(P, many, items, t + r, stand), entry)
        for prime in primes:
            self.assertNotEqual(after(P, many, items, r // prime, entry), entry)
        if t > 0:
            last = after(P, many, items, t - 1, stand)
            self.assertNotEqual(after(P, many, items, r, last), last)
        return told

    def is_ring(self, P, many, items, stand, t, r, primes):
        self.assertEqual(ring(P, many, items, stand), (t, r, primes))
        self.told_right(P, many, items, stand)

    def test_programs_that_stay(self):
        for spread, P, many in cases(111):
            stay = ("set", 0, (1,) + (0,) * many)
            move = ("set", 0, (1,) * (many + 1))
            there_and_back = (("set", many - 1, (0,) * (many - 1) + (P - 1, 4)),) * 2
            for items in ((), (again(MOST),), (again(0, move),), (stay,), (again(MOST, stay),), there_and_back):
                for stand in ((0,) * many, (P - 1,) * many, spread.stand(P, many)):
                    self.is_ring(P, many, items, stand, 0, 1, [])

    def test_stands_that_stay(self):
        self.is_ring(7, 1, (DOUBLE,), (0,), 0, 1, [])
        self.is_ring(101, 2, GROW, (0, 0), 0, 1, [])
        self.is_ring(7, 3, PASS_ON, (5, 5, 5), 0, 1, [])

    def test_tails(self):
        self.is_ring(7, 1, (("set", 0, (0, 4)),), (4,), 0, 1, [])
        self.is_ring(7, 1, (("set", 0, (0, 4)),), (3,), 1, 1, [])
        for P in (7, 101, 9973):
            self.is_ring(P, 3, PASS_ON, (1, 2, 3), 3, 1, [])
            self.is_ring(P, 3, PASS_ON, (5, 5, 3), 3, 1, [])
            self.is_ring(P, 3, PASS_ON, (5, 3, 5), 2, 1, [])
            self.is_ring(P, 3, PASS_ON, (3, 5, 5), 1, 1, [])
            pass_on = (("set", 0, (0, 1, 0)), ("set", 1, (0, 0, 5)))
            self.is_ring(P, 2, pass_on, (1, 3), 2, 1, [])
            self.is_ring(P, 2, pass_on, (3, 5), 1, 1, [])

    def test_tails_ahead_of_rings(self):
        for P in PRIMES:
            self.is_ring(P, 2, (("set", 0, (1, 0, 1)), ("set", 1, (0, 0, 2))), (0, 1), 1, P, [P])
            self.is_ring(P, 2, (("set", 0, (1, 0, 1)), ("set", 1, (0, 0, 2))), (0, 2), 0, P, [P])
            slow = (("set", 0, (0, 1, 0, 0)), ("set", 1, (0, 0, 0, 2)), ("set", 2, (0, 0, 1, 1)))
            self.is_ring(P, 3, slow, (0, 1, 0), 2, P, [P])
            self.is_ring(P, 3, slow, (0, 2, 0), 1, P, [P])
            self.is_ring(P, 3, slow, (2, 2, 0), 0, P, [P])

    def test_as_many_rounds_as_the_prime(self):
        for P in PRIMES:
            for many in (1, 2, 3):
                for x in range(many):
                    form = [0] * many + [P - 1]
                    form[x] = 1
                    self.is_ring(P, many, (("set", x, tuple(form)),), (1,) * many, 0, P, [P])

    def test_piles(self):
        two = (("set", 1, (1, 1, 0)), ("set", 0, (1, 0, 1)))
        self.is_ring(3, 3, PILE, (0, 0, 0), 0, 9, [3])
        self.is_ring(3, 3, (again(3, *PILE),), (0, 0, 0), 0, 3, [3])
        self.is_ring(3, 3, (again(9, *PILE),), (0, 0, 0), 0, 1, [])
        for P in PRIMES:
            self.is_ring(P, 2, two, (0, 0), 0, P, [P])
            if P > 3:
                self.is_ring(P, 3, PILE, (0, 0, 0), 0, P, [P])

    def test_multiples(self):
        self.is_ring(7, 1, (DOUBLE,), (1,), 0, 3, [3])
        self.is_ring(7, 1, (("set", 0, (3, 0)),), (1,), 0, 6, [2, 3])
        self.is_ring(7, 1, (("set", 0, (6, 0)),), (1,), 0, 2, [2])
        self.is_ring(101, 1, (DOUBLE,), (5,), 0, 100, [2, 5])
        self.is_ring(9973, 1, (("set", 0, (11, 0)),), (1,), 0, 9972, [2, 3, 277])
        self.is_ring(101, 2, (("set", 0, (2, 0, 0)), ("set", 1, (0, 1, 1))), (1, 0), 0, 10100, [2, 5, 101])

    def test_sums_of_the_two_and_three_before(self):
        for P, r in ((3, 4), (5, 10), (7, 8), (101, 25)):
            self.is_ring(P, 2, GROW, (0, 1), 0, r, primes_by_hand(r))
        for P, r in ((3, 13), (5, 31), (7, 48)):
            self.is_ring(P, 3, three_before(P, 1, 1, 1), (0, 0, 1), 0, r, primes_by_hand(r))

    def test_more_than_eight_figures(self):
        self.is_ring(7673, 3, LONG, (1, 0, 0), 0, 64535332888, [2, 13, 73, 137, 62047])
        self.is_ring(7673, 3, (again(6452888, *LONG),), (1, 0, 0), 0, 10001, [73, 137])
        longest = 0
        for P in (9907, 9967, 9973):
            for a in range(1, 25):
                longest = max(longest, self.told_right(P, 3, three_before(P, a, 1, 2), (0, 0, 1))[1])
        self.assertGreater(longest, 10**11)
        self.assertLess(longest, 9973**3)

    def test_great_agains(self):
        self.is_ring(5, 1, (again(MOST, ADD),), (3,), 0, 1, [])
        self.is_ring(7, 1, (again(MOST, ADD),), (3,), 0, 7, [7])
        self.is_ring(7, 1, (again(MOST, DOUBLE),), (3,), 0, 3, [3])
        self.is_ring(7, 1, (again(MOST - 1, DOUBLE),), (3,), 0, 1, [])
        self.is_ring(7, 3, (again(MOST, *PASS_ON),), (1, 2, 3), 1, 1, [])
        self.is_ring(101, 1, (again(MOST, DOUBLE),), (3,), 0, 1, [])
        tails = {}
        for spread, P, many in cases(112):
            for size in (1, 2, 4, 10, 30):
                for _ in range(6):
                    items = spread.items(P, many, size, 3, COUNTS)
                    t = self.told_right(P, many, items, spread.stand(P, many))[0]
                    tails[t] = tails.get(t, 0) + 1
                self.told_right(P, many, without_loss(items), spread.stand(P, many))
        self.assertEqual(sorted(tails)[:2], [0, 1])

    def test_as_walked_by_hand(self):
        seen = {}
        for spread, P, many in cases(113):
            if P**many <= 130:
                for _ in range(25):
                    items = spread.items(P, many, 1 + spread.number(5), 2, (0, 1, 2, 3))
                    for stand in all_stands(P, many):
                        t, r = walked_by_hand(lambda each: done_by_hand(P, items, each), stand)[1:]
                        self.assertEqual(ring(P, many, items, stand), (t, r, primes_by_hand(r)))
                        seen[(many, t)] = seen.get((many, t), 0) + 1
        for many in (1, 2, 3):
            for t in range(many):
                self.assertGreater(seen[(many, t)], 10)

    def test_two_boxes_and_every_two_forms_on_the_wheel_of_3(self):
        for numbers in all_stands(3, 6):
            items = (("set", 0, numbers[:3]), ("set", 1, numbers[3:]))
            for stand in all_stands(3, 2):
                t, r = walked_by_hand(lambda each: turned(3, table_of(3, 2, items), each), stand)[1:]
                self.assertEqual(ring(3, 2, items, stand), (t, r, primes_by_hand(r)))

    def test_the_list_is_the_askers_own(self):
        for items in ((), GROW, (again(MOST, *GROW),)):
            told = ring(101, 2, items, (0, 1))
            one, other = ring(101, 2, items, (0, 1)), ring(101, 2, items, (0, 1))
            self.assertIsNot(one[2], other[2])
            one[2].append("mine")
            self.assertEqual(other, told)
            other[2].clear()
            self.assertEqual(ring(101, 2, items, (0, 1)), told)
        self.assertEqual(GROW, (("set", 0, (1, 1, 0)), ("set", 1, (1, 1, 0))))
