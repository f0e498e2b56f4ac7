import copy
import itertools

from longrounds.solving import idle_sums, solved, steps_form
from samples import PRIMES, Spread, WheelTest, all_stands, all_sums, total


def together(P, row, other):
    return sum(n * m for n, m in zip(row, other)) % P


def some_steps(spread, P, width, rank):
    """Rows in steps form, as many as rank tells."""
    places = list(range(width))
    while len(places) > rank:
        places.pop(spread.number(len(places)))
    rows = []
    for lead in places:
        row = [0] * width
        row[lead] = 1
        for place in range(lead + 1, width):
            if place not in places:
                row[place] = spread.number(P)
        rows.append(tuple(row))
    return rows


def mixed(spread, P, rows, many, width):
    """So many rows of which just the same rows are sums: what is done to them can be undone."""
    told = [list(row) for row in rows] + [[0] * width for _ in range(many - len(rows))]
    for _ in range(6 * many):
        one, other = spread.number(many), spread.number(many)
        by = 1 + spread.number(P - 1)
        if one == other:
            told[one] = [by * n % P for n in told[one]]
        else:
            told[one] = [(n + by * m) % P for n, m in zip(told[one], told[other])]
    return [tuple(row) for row in told]


def cases(seed):
    """The wheel, rows of each number and width from one to eight, and their steps form."""
    spread = Spread(seed)
    for P in PRIMES:
        for many in range(1, 9):
            for width in range(1, 9):
                rank = spread.number(min(many, width) + 1)
                steps = some_steps(spread, P, width, rank)
                yield spread, P, mixed(spread, P, steps, many, width), steps


def small_rows():
    """All lists of one to three rows of width one to two on the wheel of 3."""
    for width in (1, 2):
        for many in (1, 2, 3):
            for rows in itertools.product(all_stands(3, width), repeat=many):
                yield list(rows), width


class StepsFormTest(WheelTest):
    def test_by_hand(self):
        self.assertEqual(steps_form(7, [(3,)]), [(1,)])
        self.assertEqual(steps_form(7, [(2, 4)]), [(1, 2)])
        self.assertEqual(steps_form(7, [(0, 0, 3, 6)]), [(0, 0, 1, 2)])
        self.assertEqual(steps_form(7, [(1, 2), (3, 4)]), [(1, 0), (0, 1)])
        self.assertEqual(steps_form(7, [(1, 2, 3), (2, 4, 6)]), [(1, 2, 3)])
        self.assertEqual(steps_form(7, [(0, 2, 4), (3, 0, 6)]), [(1, 0, 2), (0, 1, 2)])
        self.assertEqual(steps_form(5, [(1, 2, 0, 1), (1, 2, 1, 3)]), [(1, 2, 0, 1), (0, 0, 1, 2)])
        self.assertEqual(steps_form(5, [(0, 0, 1), (0, 1, 3), (1, 4, 2)]), [(1, 0, 0), (0, 1, 0), (0, 0, 1)])

    def test_rows_of_nothing(self):
        for P in PRIMES:
            for many in range(1, 9):
                for width in range(1, 9):
                    self.assertEqual(steps_form(P, [(0,) * width] * many), [])

    def test_rows_of_nothing_among_others(self):
        self.assertEqual(steps_form(7, [(0, 0), (2, 4), (0, 0)]), [(1, 2)])

    def test_the_same_row_many_times(self):
        self.assertEqual(steps_form(7, [(0, 5, 3)] * 8), [(0, 1, 2)])

    def test_rows_of_which_the_form_is_known(self):
        for _, P, rows, steps in cases(61):
            told = steps_form(P, rows)
            self.assertEqual(told, steps)
            self.in_steps_form(P, len(rows[0]), told)

    def test_rows_in_steps_form_stay(self):
        for _, P, rows, steps in cases(62):
            if steps:
                told = steps_form(P, steps)
                self.assertEqual(told, steps)
                self.assertIsNot(told, steps)

    def test_just_the_same_rows_are_sums(self):
        for rows, width in small_rows():
            told = steps_form(3, rows)
            self.in_steps_form(3, width, told)
            self.assertEqual(all_sums(3, told, width), all_sums(3, rows, width))

    def test_full_rows_of_eight(self):
        spread = Spread(63)
        for P in PRIMES:
            whole = [tuple(int(k == j) for k in range(8)) for j in range(8)]
            self.assertEqual(steps_form(P, mixed(spread, P, whole, 8, 8)), whole)

    def test_numbers_off_the_wheel_come_onto_it(self):
        self.assertEqual(steps_form(7, [(7, -1), (14, 8)]), [(0, 1)])


class IdleSumsTest(WheelTest):
    def test_by_hand(self):
        self.assertEqual(idle_sums(7, [(1, 2), (2, 4)]), [(1, 3)])
        self.assertEqual(idle_sums(7, [(1, 0), (0, 1), (1, 1)]), [(1, 1, 6)])
        self.assertEqual(idle_sums(7, [(0, 0), (1, 1)]), [(1, 0)])
        self.assertEqual(idle_sums(7, [(1, 1), (0, 0)]), [(0, 1)])
        self.assertEqual(idle_sums(7, [(3,), (3,), (3,)]), [(1, 0, 6), (0, 1, 6)])

    def test_none_where_just_the_weights_of_nothing_do(self):
        self.assertEqual(idle_sums(7, [(3,)]), [])
        self.assertEqual(idle_sums(7, [(1, 2), (3, 4)]), [])
        for _, P, rows, steps in cases(64):
            if steps:
                self.assertEqual(idle_sums(P, steps), [])

    def test_rows_of_nothing_are_idle_each(self):
        for many in range(1, 9):
            each = [tuple(int(k == j) for k in range(many)) for j in range(many)]
            self.assertEqual(idle_sums(5, [(0, 0, 0)] * many), each)

    def test_they_come_to_nothing_and_are_as_many_as_rows_too_many(self):
        for _, P, rows, steps in cases(65):
            told = idle_sums(P, rows)
            self.in_steps_form(P, len(rows), told)
            self.assertEqual(len(told), len(rows) - len(steps))
            for weights in told:
                self.assertEqual(total(P, rows, weights), (0,) * len(rows[0]))

    def test_all_weights_that_come_to_nothing_are_sums_of_them(self):
        for rows, width in small_rows():
            told = idle_sums(3, rows)
            self.in_steps_form(3, len(rows), told)
            idle = {w for w in all_stands(3, len(rows)) if not any(total(3, rows, w))}
            self.assertEqual(all_sums(3, told, len(rows)), idle)


class SolvedTest(WheelTest):
    def told_right(self, P, rows, goal):
        told = solved(P, rows, goal)
        self.assertIs(type(told), tuple)
        self.assertEqual(len(told), 2)
        if told[0] == "sum":
            self.is_row(P, len(rows), told[1])
            self.assertEqual(total(P, rows, told[1]), goal)
        else:
            self.assertEqual(told[0], "shut")
            self.is_row(P, len(goal), told[1])
            for row in rows:
                self.assertEqual(together(P, told[1], row), 0)
            self.assertEqual(together(P, told[1], goal), 1)
        return told[0]

    def test_by_hand(self):
        self.assertEqual(solved(7, [(2,)], (3,)), ("sum", (5,)))
        self.assertEqual(solved(7, [(0,)], (3,)), ("shut", (5,)))
        self.assertEqual(solved(7, [(1, 2), (0, 1)], (3, 4)), ("sum", (3, 5)))
        self.assertEqual(solved(7, [(1, 2)], (1, 3)), ("shut", (5, 1)))

    def test_goals_and_rows_of_nothing(self):
        for P in PRIMES:
            for many in range(1, 9):
                for width in range(1, 9):
                    nothing = [(0,) * width] * many
                    self.assertEqual(self.told_right(P, nothing, (0,) * width), "sum")
                    for place in range(width):
                        goal = tuple(P - 1 if k == place else 0 for k in range(width))
                        self.assertEqual(self.told_right(P, nothing, goal), "shut")

    def test_nothing_is_a_sum_of_any_rows(self):
        for _, P, rows, steps in cases(66):
            self.assertEqual(self.told_right(P, rows, (0,) * len(rows[0])), "sum")

    def test_sums_of_the_rows(self):
        for spread, P, rows, steps in cases(67):
            for row in rows:
                self.assertEqual(self.told_right(P, rows, row), "sum")
            goal = total(P, rows, [spread.number(P) for _ in rows])
            self.assertEqual(self.told_right(P, rows, goal), "sum")

    def test_goals_that_are_shut_off(self):
        for spread, P, rows, steps in cases(68):
            width = len(rows[0])
            leads = [row.index(1) for row in steps]
            for free in set(range(width)) - set(leads):
                goal = list(total(P, rows, [spread.number(P) for _ in rows]))
                goal[free] = (goal[free] + 1 + spread.number(P - 1)) % P
                self.assertEqual(self.told_right(P, rows, tuple(goal)), "shut")

    def test_any_goals(self):
        for spread, P, rows, steps in cases(69):
            self.told_right(P, rows, spread.stand(P, len(rows[0])))

    def test_every_goal_of_small_rows(self):
        for rows, width in small_rows():
            sums = all_sums(3, rows, width)
            for goal in all_stands(3, width):
                self.assertEqual(self.told_right(3, rows, goal), "sum" if goal in sums else "shut")


class OwnTest(WheelTest):
    def test_what_is_handed_in_stays(self):
        for spread, P, rows, steps in cases(70):
            goal = spread.stand(P, len(rows[0]))
            ahead = copy.deepcopy(rows)
            told = (steps_form(P, rows), idle_sums(P, rows), solved(P, rows, goal))
            self.assertEqual(rows, ahead)
            self.assertEqual(told, (steps_form(P, rows), idle_sums(P, rows), solved(P, rows, goal)))

    def test_the_lists_are_the_askers_own(self):
        for rows in ([(1, 2), (2, 4)], [(1, 0), (0, 1)], [(0, 0)], [(1, 0), (0, 1), (0, 0)]):
            for asked in (steps_form, idle_sums):
                one, other, kept = asked(7, rows), asked(7, rows), copy.deepcopy(asked(7, rows))
                self.assertIsNot(one, other)
                self.assertIsNot(one, rows)
                one.append("mine")
                one.reverse()
                self.assertEqual(other, kept)
                self.assertEqual(asked(7, rows), kept)

    def test_rows_may_change_later(self):
        rows = [(1, 2), (2, 5)]
        told = steps_form(7, rows)
        rows.clear()
        self.assertEqual(told, [(1, 0), (0, 1)])
