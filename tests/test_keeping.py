from longrounds.keeping import kept
from longrounds.making import rounds, table_of
from longrounds.tables import turned
from samples import (
    ADD, COUNTS, DOUBLE, MOST, PRIMES, WheelTest, again, all_stands, all_sums, cases, done_by_hand, sample_stands,
    worth_by_hand,
)

# Adds 1 to the one box and 2 to the other.
STEP = (("set", 0, (1, 0, 1)), ("set", 1, (0, 1, 2)))
MOVE = (("set", 0, (1, 1, 0)), ("set", 1, (0, 0, 0)))


def every_form(many):
    return [tuple(int(k == place) for k in range(many + 1)) for place in range(many + 1)]


def small_programs(seed, counts):
    for spread, P, many in cases(seed):
        if P ** (2 * many + 1) <= 3000:
            for _ in range(25):
                yield P, many, spread.items(P, many, 1 + spread.number(7), 2, counts)


class KeptTest(WheelTest):
    def keeps(self, P, many, items, *forms):
        told = kept(P, many, items)
        self.assertEqual(told, list(forms))
        self.in_steps_form(P, many + 1, told)

    def test_no_items_keep_every_form(self):
        for P in PRIMES:
            for many in (1, 2, 3):
                for nothing in ((), (again(MOST),), (again(0, ("set", 0, (0,) * (many + 1))),)):
                    self.keeps(P, many, nothing, *every_form(many))

    def test_one_box(self):
        self.keeps(7, 1, (ADD,), (0, 1))
        self.keeps(7, 1, (DOUBLE,), (0, 1))
        self.keeps(7, 1, (("set", 0, (0, 4)),), (0, 1))
        self.keeps(7, 1, (again(7, ADD),), (1, 0), (0, 1))
        self.keeps(7, 1, (again(3, DOUBLE),), (1, 0), (0, 1))

    def test_two_boxes(self):
        self.keeps(7, 2, STEP, (1, 3, 0), (0, 0, 1))
        self.keeps(101, 2, STEP, (1, 50, 0), (0, 0, 1))
        self.keeps(7, 2, (("set", 1, (0, 1, 1)),), (1, 0, 0), (0, 0, 1))
        self.keeps(7, 2, (("set", 0, (1, 0, 1)),), (0, 1, 0), (0, 0, 1))
        self.keeps(7, 2, MOVE, (1, 1, 0), (0, 0, 1))
        self.keeps(7, 2, (("set", 0, (1, 1, 0)), ("set", 1, (1, 1, 0))), (0, 0, 1))
        self.keeps(7, 2, (("set", 0, (6, 0, 3)),), (0, 1, 0), (0, 0, 1))

    def test_three_boxes(self):
        turn = (("set", 0, (1, 1, 0, 0)), ("set", 1, (1, 6, 0, 0)), ("set", 0, (1, 6, 0, 0)))
        self.keeps(7, 3, turn, (1, 1, 0, 0), (0, 0, 1, 0), (0, 0, 0, 1))
        self.keeps(7, 3, turn + (("set", 2, (0, 0, 1, 1)),), (1, 1, 0, 0), (0, 0, 0, 1))
        each = tuple(("set", x, tuple(int(k == x) for k in range(3)) + (x + 1,)) for x in range(3))
        self.keeps(7, 3, each, (1, 0, 2, 0), (0, 1, 4, 0), (0, 0, 0, 1))

    def test_great_agains(self):
        self.keeps(5, 1, (again(MOST, ADD),), (1, 0), (0, 1))
        self.keeps(5, 1, (again(MOST - 1, ADD),), (0, 1))
        self.keeps(101, 2, (again(MOST, *STEP),), (1, 50, 0), (0, 0, 1))
        self.keeps(5, 2, (again(MOST, again(MOST, *STEP)),), *every_form(2))
        self.keeps(7, 2, (again(MOST, *MOVE),), (1, 1, 0), (0, 0, 1))

    def test_the_number_alone_is_always_kept(self):
        for spread, P, many in cases(91):
            told = kept(P, many, spread.items(P, many, 10, 3, COUNTS))
            self.assertEqual(told[-1], (0,) * many + (1,))

    def test_worth_the_same_ahead_and_behind(self):
        for spread, P, many in cases(92):
            for size in (1, 2, 5, 30):
                items = spread.items(P, many, size, 3, COUNTS)
                told = kept(P, many, items)
                self.in_steps_form(P, many + 1, told)
                for n in (1, 2, MOST):
                    table = rounds(P, table_of(P, many, items), n)
                    for stand in sample_stands(spread, P, many):
                        end = turned(P, table, stand)
                        for form in told:
                            self.assertEqual(worth_by_hand(P, form, end), worth_by_hand(P, form, stand))

    def test_no_form_is_left_out(self):
        numbers = set()
        for P, many, items in small_programs(93, (0, 1, 2, 3)):
            ends = {stand: done_by_hand(P, items, stand) for stand in all_stands(P, many)}
            told = kept(P, many, items)
            self.in_steps_form(P, many + 1, told)
            same = {form for form in all_stands(P, many + 1)
                    if all(worth_by_hand(P, form, ends[stand]) == worth_by_hand(P, form, stand) for stand in ends)}
            self.assertEqual(all_sums(P, told, many + 1), same)
            numbers.add((many, len(told)))
        self.assertLessEqual({(1, 1), (1, 2), (2, 1), (2, 2), (3, 1), (3, 2), (3, 3)}, numbers)

    def test_the_list_is_the_askers_own(self):
        for items in ((), STEP, (again(MOST, *MOVE),)):
            told = kept(7, 2, items)
            one, other = kept(7, 2, items), kept(7, 2, items)
            self.assertIsNot(one, other)
            one.reverse()
            one.append("mine")
            self.assertEqual(other, told)
            other.clear()
            self.assertEqual(kept(7, 2, items), told)
        self.assertEqual(STEP, (("set", 0, (1, 0, 1)), ("set", 1, (0, 1, 2))))
