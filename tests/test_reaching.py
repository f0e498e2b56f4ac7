from longrounds.errors import TooLong
from longrounds.making import after, table_of
from longrounds.reaching import reach
from longrounds.rings import ring
from longrounds.tables import turned
from samples import (
    ADD, COUNTS, DOUBLE, GROW, MOST, PASS_ON, PRIMES, WheelTest, again, all_stands, cases, done_by_hand,
    walked_by_hand,
)

WIPE = ("set", 0, (0, 4))
# Box 0 is multiplied, box 1 stays.
ROWS = (("set", 0, (3, 0, 0)),)
# From (1, 0) a ring of 10000 rounds on the wheel of 1249.
JUST = (("set", 0, (338, 1, 0)), ("set", 1, (1, 1, 0)))
# From (1, 0, 0) a ring of 10001 rounds on the wheel of 7673.
ONE_MORE = (again(6452888, ("set", 0, (1, 0, 1, 0)), ("set", 1, (1, 1, 0, 0)), ("set", 2, (0, 1, 6, 0))),)


def least_root(r):
    return [m for m in range(1, 102) if m * m >= r][0]


def rounds_by_hand(step, stand, n):
    for _ in range(n):
        stand = step(stand)
    return stand


def reach_by_hand(step, stand, goal):
    """As the document tells it, each round walked."""
    counts, t, r = walked_by_hand(step, stand)
    if goal in counts:
        return ("after", counts[goal])
    if rounds_by_hand(step, goal, r) != goal:
        return ("off", t, r)
    m = least_root(r)
    near = [rounds_by_hand(step, goal, n) for n in range(m)]
    far, count = [], t
    stand = rounds_by_hand(step, stand, t)
    while count < t + r:
        count += m
        stand = rounds_by_hand(step, stand, m)
        far.append(stand)
    return ("apart", t, r, near, far)


def one_round(P, many, items):
    table = table_of(P, many, items)
    return lambda stand: turned(P, table, stand)


class ReachTest(WheelTest):
    def told_right(self, P, many, items, stand, goal):
        told = reach(P, many, items, stand, goal)
        self.assertIs(type(told), tuple)
        kinds = {"after": (str, int), "off": (str, int, int), "apart": (str, int, int, list, list)}
        self.assertEqual(tuple(type(part) for part in told), kinds[told[0]])
        t, r = ring(P, many, items, stand)[:2]
        if told[0] == "after":
            self.assertIn(told[1], range(t + r))
            self.assertEqual(after(P, many, items, told[1], stand), goal)
            return told
        self.assertEqual(told[1:3], (t, r))
        self.assertNotIn(goal, [after(P, many, items, n, stand) for n in range(t + 1)])
        self.assertEqual(after(P, many, items, r, goal) == goal, told[0] == "apart")
        if told[0] == "apart":
            self.apart_right(P, many, items, stand, goal, *told[1:])
        return told

    def apart_right(self, P, many, items, stand, goal, t, r, near, far):
        m = least_root(r)
        self.assertEqual(len(near), m)
        self.assertEqual(len(far), -(-r // m))
        for n, each in enumerate(near):
            self.is_row(P, many, each)
            self.assertEqual(each, after(P, many, items, n, goal))
        for n, each in enumerate(far, 1):
            self.is_row(P, many, each)
            self.assertEqual(each, after(P, many, items, t + n * m, stand))
        self.assertEqual(set(near) & set(far), set())

    def is_reached(self, P, many, items, stand, goal, *told):
        self.assertEqual(self.told_right(P, many, items, stand, goal), told)


class AfterTest(ReachTest):
    def test_the_stand_itself(self):
        for spread, P, many in cases(120):
            add = ("set", 0, (1,) + (0,) * (many - 1) + (1,))
            for items in ((), (again(MOST),), (add,), (again(MOST, add),), (again(MOST - 1, add),)):
                stand = spread.stand(P, many)
                self.is_reached(P, many, items, stand, stand, "after", 0)
        self.is_reached(7, 1, (WIPE,), (3,), (3,), "after", 0)

    def test_every_stand_of_a_ring(self):
        for P in (3, 5, 7, 101):
            for n in range(P):
                self.is_reached(P, 1, (ADD,), (2,), ((2 + n) % P,), "after", n)
        for n in range(100):
            self.is_reached(101, 1, (DOUBLE,), (5,), (5 * 2**n % 101,), "after", n)

    def test_long_rings(self):
        for n in (0, 1, 2, 98, 99, 100, 101, 199, 200, 201, 4950, 9799, 9800, 9801, 9899, 9900, 9901, 9971, 9972):
            self.is_reached(9973, 1, (ADD,), (9000,), ((9000 + n) % 9973,), "after", n)
        for n in (0, 1, 99, 100, 101, 5000, 9899, 9900, 9901, 9998, 9999):
            self.is_reached(1249, 2, JUST, (1, 0), after(1249, 2, JUST, n, (1, 0)), "after", n)

    def test_within_the_tail_and_at_its_end(self):
        for P in (7, 101, 9973):
            stands = [(1, 2, 3), (2, 3, 5), (3, 5, 5), (5, 5, 5)]
            for n, goal in enumerate(stands):
                self.is_reached(P, 3, PASS_ON, (1, 2, 3), goal, "after", n)
            for n, goal in enumerate(stands[1:]):
                self.is_reached(P, 3, PASS_ON, (2, 3, 5), goal, "after", n)
        items = (("set", 0, (1, 0, 1)), ("set", 1, (0, 0, 2)))
        for n in range(1, 102):
            self.is_reached(101, 2, items, (0, 1), (n % 101, 2), "after", n)
        self.is_reached(101, 2, items, (0, 1), (0, 1), "after", 0)

    def test_goals_made_by_great_counts(self):
        self.is_reached(7, 1, (ADD,), (0,), (MOST % 7,), "after", MOST % 7)
        self.is_reached(9973, 1, (ADD,), (0,), (MOST % 9973,), "after", MOST % 9973)
        self.is_reached(1249, 2, JUST, (1, 0), after(1249, 2, JUST, MOST - 1, (1, 0)), "after", 9999)
        self.is_reached(7, 3, PASS_ON, (1, 2, 3), after(7, 3, PASS_ON, MOST, (1, 2, 3)), "after", 3)
        told = 0
        for spread, P, many in cases(121):
            for size in (1, 5, 20):
                items, stand = spread.items(P, many, size, 3, COUNTS), spread.stand(P, many)
                t, r = ring(P, many, items, stand)[:2]
                if r <= 10000:
                    for n in COUNTS:
                        least = n if n < t + r else t + (n - t) % r
                        goal = after(P, many, items, n, stand)
                        self.is_reached(P, many, items, stand, goal, "after", least)
                        told += 1
        self.assertGreater(told, 300)


class NeverTest(ReachTest):
    def test_off_by_hand(self):
        self.is_reached(7, 1, (WIPE,), (4,), (3,), "off", 0, 1)
        self.is_reached(7, 1, (WIPE,), (2,), (3,), "off", 1, 1)
        self.is_reached(7, 1, (DOUBLE,), (0,), (3,), "off", 0, 1)
        self.is_reached(7, 3, PASS_ON, (1, 2, 3), (1, 2, 4), "off", 3, 1)
        self.is_reached(7, 3, PASS_ON, (2, 3, 5), (1, 2, 3), "off", 2, 1)
        self.is_reached(101, 2, (("set", 0, (2, 0, 0)), ("set", 1, (0, 100, 0))), (0, 1), (1, 0), "off", 0, 2)

    def test_apart_by_hand(self):
        self.is_reached(7, 1, (), (3,), (5,), "apart", 0, 1, [(5,)], [(3,)])
        self.is_reached(7, 1, (("set", 0, (6, 0)),), (1,), (2,), "apart", 0, 2, [(2,), (5,)], [(1,)])
        self.is_reached(7, 1, (DOUBLE,), (1,), (3,), "apart", 0, 3, [(3,), (6,)], [(4,), (2,)])
        self.is_reached(7, 1, (DOUBLE,), (1,), (0,), "apart", 0, 3, [(0,), (0,)], [(4,), (2,)])
        self.is_reached(7, 2, ROWS, (1, 0), (1, 1), "apart", 0, 6, [(1, 1), (3, 1), (2, 1)], [(6, 0), (1, 0)])
        near = [(pow(2, n, 101), 0) for n in range(10)]
        far = [(0, pow(3, 10 * n, 101)) for n in range(1, 11)]
        both = (("set", 0, (2, 0, 0)), ("set", 1, (0, 3, 0)))
        self.is_reached(101, 2, both, (0, 1), (1, 0), "apart", 0, 100, near, far)
        slow = (("set", 0, (0, 0, 0, 2)), ("set", 1, (0, 1, 0, 1)))
        near = [(2, 4, 1), (2, 5, 1), (2, 6, 1)]
        self.is_reached(7, 3, slow, (1, 0, 0), (2, 4, 1), "apart", 1, 7, near, [(2, 4, 0), (2, 0, 0), (2, 3, 0)])

    def test_lengths_of_both_lists(self):
        """Rings of each length by a step in one box, the goal being on another one by the other box."""
        for P in (3, 5, 7, 11, 13, 17, 19, 23, 29, 31, 37, 101, 9973):
            told = self.told_right(P, 2, (("set", 0, (1, 0, 1)),), (0, 0), (0, 1))
            self.assertEqual(told[:3], ("apart", 0, P))
        for P, own, r in ((17, 4, 4), (37, 7, 9), (17, 3, 16), (101, 2, 100), (101, 6, 10), (7, 3, 6)):
            told = self.told_right(P, 2, (("set", 0, (own, 0, 0)),), (1, 0), (1, 1))
            self.assertEqual(told[:3], ("apart", 0, r))
        told = self.told_right(1249, 2, JUST, (1, 0), (0, 0))
        self.assertEqual(told[:3], ("apart", 0, 10000))
        self.assertEqual((len(told[3]), len(told[4])), (100, 100))

    def test_a_goal_that_leads_into_the_ring_is_off(self):
        self.is_reached(7, 2, (("set", 0, (1, 0, 1)), ("set", 1, (0, 0, 2))), (0, 2), (3, 4), "off", 0, 7)
        self.is_reached(7, 2, (("set", 0, (1, 0, 1)), ("set", 1, (0, 0, 2))), (0, 1), (3, 1), "off", 1, 7)


class WalkedTest(ReachTest):
    def test_every_goal_as_walked_by_hand(self):
        seen = {"after": 0, "off": 0, "apart": 0}
        for spread, P, many in cases(122):
            if P**many <= 130:
                for _ in range(12):
                    items = spread.items(P, many, 1 + spread.number(4), 2, (0, 1, 2, 3))
                    stand = spread.stand(P, many)
                    for goal in all_stands(P, many):
                        told = reach_by_hand(lambda each: done_by_hand(P, items, each), stand, goal)
                        self.is_reached(P, many, items, stand, goal, *told)
                        seen[told[0]] += 1
        self.assertGreater(min(seen.values()), 300)

    def test_greater_wheels_as_walked_by_hand(self):
        seen = {"after": 0, "off": 0, "apart": 0, "refused": 0}
        for spread, P, many in cases(123):
            for size in (1, 2, 5, 30):
                for _ in range(3):
                    items, stand, goal = self.some_case(spread, P, many, size)
                    if ring(P, many, items, stand)[1] > 10000:
                        self.refused(TooLong, reach, P, many, items, stand, goal)
                        seen["refused"] += 1
                        continue
                    told = reach(P, many, items, stand, goal)
                    self.assertEqual(told, reach_by_hand(one_round(P, many, items), stand, goal))
                    seen[told[0]] += 1
        self.assertGreater(min(seen.values()), 5)

    def some_case(self, spread, P, many, size):
        stand = spread.stand(P, many)
        # Goals near by, so that some of them are on other rings.
        goal = stand[:-1] + ((stand[-1] + spread.number(3)) % P,)
        return spread.items(P, many, size, 3, COUNTS), stand, goal


class TooLongTest(ReachTest):
    def test_just_where_the_ring_is_longer_than_ten_thousand_rounds(self):
        self.assertEqual(ring(1249, 2, JUST, (1, 0))[1], 10000)
        self.assertEqual(ring(7673, 3, ONE_MORE, (1, 0, 0))[1], 10001)
        self.is_reached(1249, 2, JUST, (1, 0), (1, 0), "after", 0)
        self.refused(TooLong, reach, 7673, 3, ONE_MORE, (1, 0, 0), (1, 0, 0))
        self.refused(TooLong, reach, 101, 2, (("set", 0, (2, 0, 0)), ("set", 1, (0, 1, 1))), (1, 0), (2, 1))

    def test_whatever_the_goal_is(self):
        stand = (1, 0, 0)
        goals = [after(7673, 3, ONE_MORE, n, stand) for n in (0, 1, 2, 100, 10000, MOST)]
        for goal in goals + [(0, 0, 0), (0, 0, 1), (7672, 7672, 7672)]:
            self.refused(TooLong, reach, 7673, 3, ONE_MORE, stand, goal)
        # A tail ahead of such a ring, and goals within the tail.
        slow = (("set", 0, (2, 0, 0, 0)), ("set", 1, (0, 1, 0, 1)), ("set", 2, (0, 0, 0, 7)))
        self.assertEqual(ring(101, 3, slow, (1, 0, 0)), (1, 10100, [2, 5, 101]))
        for goal in ((1, 0, 0), (2, 1, 7), (1, 0, 1), (0, 0, 0)):
            self.refused(TooLong, reach, 101, 3, slow, (1, 0, 0), goal)

    def test_not_where_only_the_goal_is_on_such_a_ring(self):
        self.is_reached(7673, 3, ONE_MORE, (0, 0, 0), (1, 0, 0), "off", 0, 1)
        self.is_reached(7673, 3, ONE_MORE, (0, 0, 0), (0, 0, 0), "after", 0)

    def test_not_where_the_program_has_many_deeds(self):
        for P in PRIMES:
            self.is_reached(P, 1, (again(MOST, again(MOST, again(MOST, ADD))),), (1,), (1,), "after", 0)


class OwnTest(ReachTest):
    def test_asked_again_the_same(self):
        for goal in all_stands(7, 2):
            for items in ((), ROWS, GROW, (again(MOST, *ROWS),)):
                told = reach(7, 2, items, (1, 0), goal)
                one, other = reach(7, 2, items, (1, 0), goal), reach(7, 2, items, (1, 0), goal)
                if told[0] == "apart":
                    lists = one[3:] + other[3:]
                    self.assertEqual(len({id(each) for each in lists}), 4)
                    one[3].append("mine")
                    one[4].clear()
                self.assertEqual(other, told)
                self.assertEqual(reach(7, 2, items, (1, 0), goal), told)
        self.assertEqual(ROWS, (("set", 0, (3, 0, 0)),))
        self.assertEqual(GROW, (("set", 0, (1, 1, 0)), ("set", 1, (1, 1, 0))))
