from longrounds.hulls import hull, placed
from longrounds.making import after
from longrounds.solving import steps_form
from samples import (
    ADD, COUNTS, DOUBLE, GROW, MOST, PASS_ON, PRIMES, WheelTest, again, all_stands, cases, done_by_hand, total,
    walked_by_hand, worth_by_hand,
)

STEP = (("set", 0, (1, 0, 1)), ("set", 1, (0, 1, 2)))


def sums_of(P, stands):
    """All sums of the stands by weights that come to 1."""
    weights = [some + ((1 - sum(some)) % P,) for some in all_stands(P, len(stands) - 1)]
    return {total(P, stands, each) for each in weights}


def apart(P, stands):
    """Whether none of the stands is a sum of the others by weights that come to 1."""
    return len(steps_form(P, [stand + (1,) for stand in stands])) == len(stands)


def small_cases(seed, counts):
    for spread, P, many in cases(seed):
        if P**many <= 130:
            for _ in range(20):
                yield P, many, spread.items(P, many, 1 + spread.number(5), 2, counts), spread.stand(P, many)


def great_cases(seed):
    for spread, P, many in cases(seed):
        for size in (1, 4, 10, 30):
            yield spread, P, many, spread.items(P, many, size, 3, COUNTS), spread.stand(P, many)


class HullsTest(WheelTest):
    def leads_to(self, P, stands, weights, stand):
        self.is_row(P, len(stands), weights)
        self.assertEqual(sum(weights) % P, 1)
        self.assertEqual(total(P, stands, weights), stand)


class HullTest(HullsTest):
    def told_right(self, P, many, items, stand):
        told = hull(P, many, items, stand)
        self.assertIs(type(told), tuple)
        stands, weights = told
        self.assertIs(type(stands), list)
        for n, each in enumerate(stands):
            self.is_row(P, many, each)
            self.assertEqual(each, after(P, many, items, n, stand))
        self.assertTrue(apart(P, stands))
        self.leads_to(P, stands, weights, after(P, many, items, len(stands), stand))
        return stands

    def is_hull(self, P, many, items, stand, stands, weights):
        self.assertEqual(hull(P, many, items, stand), (stands, weights))
        self.told_right(P, many, items, stand)

    def test_a_stand_that_stays(self):
        for P in PRIMES:
            for many in (1, 2, 3):
                stand = (P - 1,) * many
                for items in ((), (again(MOST),), (("set", 0, (0,) * many + (P - 1,)),)):
                    self.is_hull(P, many, items, stand, [stand], (1,))
        self.is_hull(7, 1, (DOUBLE,), (0,), [(0,)], (1,))
        self.is_hull(7, 2, GROW, (0, 0), [(0, 0)], (1,))

    def test_one_box(self):
        self.is_hull(7, 1, (ADD,), (3,), [(3,), (4,)], (6, 2))
        self.is_hull(7, 1, (ADD,), (6,), [(6,), (0,)], (6, 2))
        self.is_hull(7, 1, (DOUBLE,), (1,), [(1,), (2,)], (5, 3))
        self.is_hull(7, 1, (("set", 0, (0, 4)),), (1,), [(1,), (4,)], (0, 1))
        self.is_hull(7, 1, (("set", 0, (6, 0)),), (1,), [(1,), (6,)], (1, 0))

    def test_two_boxes(self):
        self.is_hull(7, 2, STEP, (5, 5), [(5, 5), (6, 0)], (6, 2))
        self.is_hull(101, 2, GROW, (0, 1), [(0, 1), (1, 2), (3, 5)], (1, 97, 4))
        self.is_hull(7, 2, (("set", 0, (1, 0, 1)),), (5, 5), [(5, 5), (6, 5)], (6, 2))

    def test_three_boxes(self):
        self.is_hull(7, 3, PASS_ON, (1, 2, 3), [(1, 2, 3), (2, 3, 5), (3, 5, 5), (5, 5, 5)], (0, 0, 0, 1))
        self.is_hull(7, 3, PASS_ON, (1, 2, 5), [(1, 2, 5), (2, 5, 5), (5, 5, 5)], (0, 0, 1))
        self.is_hull(7, 3, PASS_ON, (5, 5, 5), [(5, 5, 5)], (1,))

    def test_great_agains(self):
        self.is_hull(5, 1, (again(MOST, ADD),), (3,), [(3,)], (1,))
        self.is_hull(7, 1, (again(MOST, ADD),), (3,), [(3,), (4,)], (6, 2))
        self.is_hull(101, 1, (again(MOST, again(MOST, ADD)),), (0,), [(0,), (MOST**2 % 101,)], (100, 2))
        for spread, P, many, items, stand in great_cases(101):
            self.told_right(P, many, items, stand)

    def test_hulls_of_each_length(self):
        lengths = set()
        for spread, P, many, items, stand in great_cases(102):
            lengths.add((many, len(self.told_right(P, many, items, stand))))
        for many in (1, 2, 3):
            for length in range(1, many + 2):
                self.assertIn((many, length), lengths)

    def test_the_first_one_that_is_a_sum(self):
        for P, many, items, stand in small_cases(103, (0, 1, 2, 3)):
            stands, weights = hull(P, many, items, stand)
            coming = stand
            for n, each in enumerate(stands):
                self.assertEqual(each, coming)
                if n > 0:
                    self.assertNotIn(each, sums_of(P, stands[:n]))
                coming = done_by_hand(P, items, coming)
            self.leads_to(P, stands, weights, coming)

    def test_the_list_is_the_askers_own(self):
        for items in ((), STEP, GROW):
            told = hull(7, 2, items, (1, 2))
            one, other = hull(7, 2, items, (1, 2)), hull(7, 2, items, (1, 2))
            self.assertIsNot(one[0], other[0])
            one[0].reverse()
            one[0].append("mine")
            self.assertEqual(other, told)
            other[0].clear()
            self.assertEqual(hull(7, 2, items, (1, 2)), told)
            self.assertEqual(placed(7, 2, items, (1, 2), (1, 2))[0], "sum")
        self.assertEqual(GROW, (("set", 0, (1, 1, 0)), ("set", 1, (1, 1, 0))))


class PlacedTest(HullsTest):
    def told_right(self, P, many, items, stand, goal):
        told = placed(P, many, items, stand, goal)
        self.assertIs(type(told), tuple)
        self.assertEqual(len(told), 2)
        stands = hull(P, many, items, stand)[0]
        if told[0] == "sum":
            self.leads_to(P, stands, told[1], goal)
        else:
            self.assertEqual(told[0], "shut")
            self.is_row(P, many + 1, told[1])
            self.assertEqual([worth_by_hand(P, told[1], each) for each in stands], [0] * len(stands))
            self.assertEqual(worth_by_hand(P, told[1], goal), 1)
        return told

    def test_sums_by_hand(self):
        self.assertEqual(placed(7, 1, (ADD,), (3,), (3,)), ("sum", (1, 0)))
        self.assertEqual(placed(7, 1, (ADD,), (3,), (4,)), ("sum", (0, 1)))
        self.assertEqual(placed(7, 1, (ADD,), (3,), (0,)), ("sum", (4, 4)))
        self.assertEqual(placed(7, 1, (), (3,), (3,)), ("sum", (1,)))
        self.assertEqual(placed(7, 2, STEP, (5, 5), (1, 4)), ("sum", (5, 3)))
        self.assertEqual(placed(101, 2, GROW, (0, 1), (0, 0)), ("sum", (100, 3, 100)))

    def test_shut_by_hand(self):
        self.assertEqual(self.told_right(7, 1, (), (3,), (5,)), ("shut", (4, 2)))
        self.assertEqual(self.told_right(7, 1, (DOUBLE,), (0,), (3,)), ("shut", (5, 0)))
        self.assertEqual(self.told_right(7, 2, STEP, (5, 5), (5, 6))[0], "shut")
        self.assertEqual(self.told_right(7, 2, (("set", 0, (1, 0, 1)),), (5, 5), (5, 6))[0], "shut")
        self.assertEqual(self.told_right(7, 3, PASS_ON, (1, 2, 5), (1, 2, 4))[0], "shut")

    def test_every_goal(self):
        seen = {"sum": 0, "shut": 0}
        for P, many, items, stand in small_cases(104, (0, 1, 2, 3)):
            sums = sums_of(P, hull(P, many, items, stand)[0])
            come_to = walked_by_hand(lambda each: done_by_hand(P, items, each), stand)[0]
            for goal in all_stands(P, many):
                told = self.told_right(P, many, items, stand, goal)
                self.assertEqual(told[0], "sum" if goal in sums else "shut")
                seen[told[0]] += 1
                if told[0] == "shut":
                    self.assertEqual({worth_by_hand(P, told[1], each) for each in come_to}, {0})
        self.assertGreater(min(seen.values()), 500)

    def test_later_stands_are_always_sums(self):
        for spread, P, many, items, stand in great_cases(105):
            for n in COUNTS:
                goal = after(P, many, items, n, stand)
                self.assertEqual(self.told_right(P, many, items, stand, goal)[0], "sum")

    def test_a_form_that_shuts_off_is_worth_nothing_after_any_count(self):
        shut = 0
        for spread, P, many, items, stand in great_cases(106):
            for _ in range(3):
                told = self.told_right(P, many, items, stand, spread.stand(P, many))
                if told[0] == "shut":
                    shut += 1
                    for n in COUNTS:
                        self.assertEqual(worth_by_hand(P, told[1], after(P, many, items, n, stand)), 0)
        self.assertGreater(shut, 20)

    def test_what_is_handed_in_stays(self):
        items = (ADD, again(3, DOUBLE))
        self.assertEqual(placed(7, 1, items, (3,), (5,)), placed(7, 1, items, (3,), (5,)))
        self.assertEqual(hull(7, 1, items, (3,)), hull(7, 1, items, (3,)))
        self.assertEqual(items, (("set", 0, (1, 1)), ("again", 3, (("set", 0, (2, 0)),))))
