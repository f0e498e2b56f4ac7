import unittest

from longrounds.alikes import parting, starts
from longrounds.tables import idle
from samples import ADD, COUNTS, DOUBLE, MOST, PRIMES, again, all_stands, cases, done_by_hand, with_own

TOLD_STARTS = {
    1: [(0,), (1,)],
    2: [(0, 0), (1, 0), (0, 1)],
    3: [(0, 0, 0), (1, 0, 0), (0, 1, 0), (0, 0, 1)],
}
# Three sets that bring each of two boxes' numbers into the other one.
SWAP = (("set", 0, (1, 1, 0)), ("set", 1, (1, 100, 0)), ("set", 0, (1, 100, 0)))


def add(P, x, many, number):
    return ("set", x, idle(many)[x][:-1] + (number % P,))


class StartsTest(unittest.TestCase):
    def test_in_the_told_order(self):
        for many in (1, 2, 3):
            told = starts(many)
            self.assertEqual(told, TOLD_STARTS[many])
            self.assertIs(type(told), list)
            for stand in told:
                self.assertIs(type(stand), tuple)
                for number in stand:
                    self.assertIs(type(number), int)

    def test_the_list_is_the_askers_own(self):
        for many in (1, 2, 3):
            one, other = starts(many), starts(many)
            self.assertIsNot(one, other)
            one.reverse()
            one.append("mine")
            self.assertEqual(other, TOLD_STARTS[many])
            other.clear()
            self.assertEqual(starts(many), TOLD_STARTS[many])
            self.assertIsNone(parting(7, many, (), ()))


class PartingTest(unittest.TestCase):
    def alike(self, P, many, one, other):
        self.assertIsNone(parting(P, many, one, other))
        self.assertIsNone(parting(P, many, other, one))

    def parted(self, P, many, one, other, start, end, other_end):
        told = parting(P, many, one, other)
        self.assertEqual(told, (start, end, other_end))
        for part in (told,) + told:
            self.assertIs(type(part), tuple)
        self.assertEqual(parting(P, many, other, one), (start, other_end, end))


class AlikeTest(PartingTest):
    def test_a_program_and_itself(self):
        for spread, P, many in cases(71):
            for size in (0, 1, 6, 30):
                items = spread.items(P, many, size, 3, COUNTS)
                self.alike(P, many, items, items)

    def test_nothing_done(self):
        for nothing in ((again(0, ADD),), (again(MOST),), (again(MOST, again(0, DOUBLE)),), (("set", 0, (1, 0)),)):
            self.alike(7, 1, (), nothing)
            self.alike(7, 1, (ADD,), nothing + (ADD,) + nothing)
        self.alike(7, 1, (), (again(7, ADD),))
        self.alike(5, 1, (), (again(MOST, ADD),))

    def test_sets_written_otherwise(self):
        self.alike(101, 1, (ADD, DOUBLE), (("set", 0, (2, 2)),))
        self.alike(101, 1, (ADD, DOUBLE), (DOUBLE, ADD, ADD))
        self.alike(101, 2, SWAP + SWAP, ())
        self.alike(101, 2, (add(101, 0, 2, 5),) + SWAP, SWAP + (add(101, 1, 2, 5),))
        self.alike(101, 3, (add(101, 0, 3, 5), add(101, 2, 3, 6)), (add(101, 2, 3, 6), add(101, 0, 3, 5)))

    def test_what_is_set_over_is_not_seen(self):
        self.alike(7, 1, (ADD, ("set", 0, (0, 4))), (DOUBLE, DOUBLE, ("set", 0, (0, 4))))
        self.alike(7, 1, (again(MOST, ADD), ("set", 0, (0, 4))), (again(MOST, ("set", 0, (0, 4))),))

    def test_great_agains_written_otherwise(self):
        for P in PRIMES:
            for many in (1, 2, 3):
                for x in range(many):
                    one = (again(MOST, add(P, x, many, 1)),)
                    self.alike(P, many, one, (add(P, x, many, MOST),))
        for spread, P, many in cases(72):
            items = spread.items(P, many, 6, 1, COUNTS)
            whole = (again(MOST, *items),)
            self.alike(P, many, whole, (again(10**15, again(10**15, *items)),))
            self.alike(P, many, whole, (again(10**10, again(10**10, again(10**10, *items))),))
            self.alike(P, many, whole, items + (again(MOST - 1, *items),))
            self.alike(P, many, whole, (again(MOST - 12345, *items), again(12345, *items)))
            self.alike(P, many, whole, (again(MOST // 2, *(items + items)),))


class PartedTest(PartingTest):
    def test_at_the_first_start(self):
        self.parted(7, 1, (), (ADD,), (0,), (0,), (1,))
        self.parted(101, 1, (ADD, DOUBLE), (DOUBLE, ADD), (0,), (2,), (1,))
        self.parted(7, 2, (("set", 1, (0, 0, 4)),), (("set", 1, (0, 0, 5)),), (0, 0), (0, 4), (0, 5))
        for P in PRIMES:
            for many in (1, 2, 3):
                for x in range(many):
                    zero = (0,) * many
                    end = zero[:x] + (P - 1,) + zero[x + 1:]
                    self.parted(P, many, (add(P, x, many, -1),), (), zero, end, zero)

    def test_only_at_a_later_start(self):
        self.parted(7, 1, (), (DOUBLE,), (1,), (1,), (2,))
        for P in PRIMES:
            for many in (1, 2, 3):
                for x in range(many):
                    for box in range(many):
                        form = list(idle(many)[x])
                        form[box] += 1
                        start = TOLD_STARTS[many][1 + box]
                        end = tuple(n + (k == x) for k, n in enumerate(start))
                        self.parted(P, many, (), (("set", x, tuple(form)),), start, start, end)

    def test_the_first_of_several_starts(self):
        self.parted(7, 3, (), (("set", 0, (1, 3, 4, 0)),), (0, 1, 0), (0, 1, 0), (3, 1, 0))
        self.parted(7, 3, (), (("set", 0, (1, 3, 4, 5)),), (0, 0, 0), (0, 0, 0), (5, 0, 0))
        self.parted(7, 2, (), (("set", 0, (0, 0, 0)), ("set", 1, (0, 0, 0))), (1, 0), (1, 0), (0, 0))

    def test_one_round_more(self):
        self.parted(5, 1, (again(MOST, ADD),), (again(MOST - 1, ADD),), (0,), (0,), (4,))
        self.parted(7, 1, (again(MOST, DOUBLE),), (again(MOST - 1, DOUBLE),), (1,), (2 ** (MOST % 3),), (1,))
        self.parted(101, 2, (again(MOST, *SWAP),), (again(MOST - 1, *SWAP),), (1, 0), (1, 0), (0, 1))

    def test_items_in_another_order(self):
        one = (("set", 0, (1, 1, 0)), ("set", 1, (1, 1, 0)))
        self.parted(101, 2, one, one[::-1], (1, 0), (1, 1), (2, 1))


class EveryStartTest(PartingTest):
    """Where no start of the told ones parts two programs, none at all does."""

    def test_as_walked_from_all_stands(self):
        seen = {True: 0, False: 0}
        for spread, P, many in cases(73):
            if P**many > 130:
                continue
            for _ in range(60):
                one = spread.items(P, many, 1 + spread.number(3), 2, (0, 1, 2, 3))
                other = with_own(one, lambda own: (own + spread.number(2)) % P)
                told = parting(P, many, one, other)
                ends = {stand: (done_by_hand(P, one, stand), done_by_hand(P, other, stand))
                        for stand in all_stands(P, many)}
                alike = all(end == other_end for end, other_end in ends.values())
                seen[alike] += 1
                self.assertEqual(told is None, alike)
                if not alike:
                    start = [stand for stand in TOLD_STARTS[many] if ends[stand][0] != ends[stand][1]][0]
                    self.assertEqual(told, (start,) + ends[start])
        self.assertGreater(min(seen.values()), 50)

    def test_what_is_handed_in_stays(self):
        one, other = (ADD, again(3, DOUBLE)), (again(2, ADD),)
        self.assertEqual(parting(7, 1, one, other), parting(7, 1, one, other))
        self.assertEqual(one, (("set", 0, (1, 1)), ("again", 3, (("set", 0, (2, 0)),))))
        self.assertEqual(other, (("again", 2, (("set", 0, (1, 1)),)),))
