from longrounds.doing import done
from longrounds.making import after, ladder, rounds, table_of
from longrounds.programs import deeds_in, program
from longrounds.tables import idle, setting, then, turned
from samples import ADD, COUNTS, DOUBLE, MOST, PRIMES, WheelTest, again, all_stands, cases, done_by_hand


def walked(P, table, n):
    whole = idle(len(table))
    for _ in range(n):
        whole = then(P, whole, table)
    return whole


class LadderTest(WheelTest):
    def test_none_for_nothing(self):
        self.assertEqual(ladder(7, ((2, 3),), 0), [])

    def test_one_for_one(self):
        self.assertEqual(ladder(7, ((2, 3),), 1), [((2, 3),)])

    def test_rungs_by_hand(self):
        self.assertEqual(ladder(101, ((1, 1),), 9), [((1, 1),), ((1, 2),), ((1, 4),), ((1, 8),)])
        self.assertEqual(ladder(101, ((2, 0),), 7), [((2, 0),), ((4, 0),), ((16, 0),)])

    def test_as_many_as_figures_in_twos(self):
        for spread, P, many in cases(41):
            table = spread.table(P, many)
            for n in range(1, 18):
                self.assertEqual(len(ladder(P, table, n)), len(f"{n:b}"))
            for n in COUNTS[1:]:
                self.assertEqual(len(ladder(P, table, n)), len(f"{n:b}"))
        self.assertEqual(len(ladder(7, ((2, 3),), MOST)), 100)
        self.assertEqual(len(ladder(7, ((2, 3),), 2**40 - 1)), 40)
        self.assertEqual(len(ladder(7, ((2, 3),), 2**40)), 41)

    def test_each_next_is_the_one_ahead_twice(self):
        for spread, P, many in cases(42):
            table = spread.table(P, many)
            rungs = ladder(P, table, MOST)
            self.assertIs(type(rungs), list)
            self.assertEqual(rungs[0], table)
            for rung in rungs:
                self.is_table(P, many, rung)
            for place in range(1, len(rungs)):
                self.assertEqual(rungs[place], then(P, rungs[place - 1], rungs[place - 1]))
            for place in range(6):
                self.assertEqual(rungs[place], walked(P, table, 2**place))

    def test_the_list_is_the_askers_own(self):
        table = ((2, 3), )
        one = ladder(7, table, 9)
        other = ladder(7, table, 9)
        self.assertIsNot(one, other)
        one.clear()
        one.append("mine")
        self.assertEqual(other, ladder(7, table, 9))
        self.assertEqual(len(other), 4)
        none = ladder(7, table, 0)
        none.append("mine")
        self.assertEqual(ladder(7, table, 0), [])
        self.assertEqual(rounds(7, table, 9), walked(7, table, 9))


class RoundsTest(WheelTest):
    def test_by_hand(self):
        self.assertEqual(rounds(101, ((1, 1),), 24), ((1, 24),))
        self.assertEqual(rounds(101, ((1, 1),), MOST), ((1, MOST % 101),))
        self.assertEqual(rounds(9973, ((2, 0),), 100), ((pow(2, 100, 9973), 0),))
        self.assertEqual(rounds(9973, ((2, 0),), MOST), ((pow(2, MOST, 9973), 0),))
        self.assertEqual(rounds(7, ((0, 1, 0), (1, 0, 0)), MOST), idle(2))
        self.assertEqual(rounds(7, ((0, 1, 0), (1, 0, 0)), MOST - 1), ((0, 1, 0), (1, 0, 0)))
        self.assertEqual(rounds(7, ((0, 1, 0, 0), (0, 0, 1, 0), (0, 0, 0, 5)), MOST), ((0, 0, 0, 5),) * 3)

    def test_none_is_the_idle_table(self):
        for spread, P, many in cases(43):
            self.assertEqual(rounds(P, spread.table(P, many), 0), idle(many))

    def test_one_is_the_table(self):
        for spread, P, many in cases(44):
            table = spread.table(P, many)
            self.assertEqual(rounds(P, table, 1), table)

    def test_as_walked(self):
        for spread, P, many in cases(45):
            table = spread.table(P, many)
            for n in range(40):
                self.assertEqual(rounds(P, table, n), walked(P, table, n))

    def test_one_more_round(self):
        for spread, P, many in cases(46):
            table = spread.table(P, many)
            for n in COUNTS[:-1]:
                some = rounds(P, table, n)
                self.is_table(P, many, some)
                more = rounds(P, table, n + 1)
                self.assertEqual(more, then(P, some, table))
                self.assertEqual(more, then(P, table, some))

    def test_rounds_and_then_rounds(self):
        for spread, P, many in cases(47):
            table = spread.table(P, many)
            for n in COUNTS:
                for m in COUNTS:
                    if n + m <= MOST:
                        both = then(P, rounds(P, table, n), rounds(P, table, m))
                        self.assertEqual(rounds(P, table, n + m), both)

    def test_rounds_of_rounds(self):
        for spread, P, many in cases(48):
            table = spread.table(P, many)
            for n, m in ((0, MOST), (1, MOST), (2, 3), (7, 11), (10**15, 10**15), (10**10, 10**20), (3, 2**60)):
                told = rounds(P, table, n * m)
                self.assertEqual(rounds(P, rounds(P, table, n), m), told)
                self.assertEqual(rounds(P, rounds(P, table, m), n), told)

    def test_rounds_of_the_idle_table(self):
        for many in (1, 2, 3):
            for n in COUNTS:
                self.assertEqual(rounds(7, idle(many), n), idle(many))


class TableOfTest(WheelTest):
    def test_no_items(self):
        for P in PRIMES:
            for many in (1, 2, 3):
                self.assertEqual(table_of(P, many, ()), idle(many))

    def test_a_set_is_the_setting(self):
        for spread, P, many in cases(49):
            for x in range(many):
                form = spread.form(P, many)
                self.assertEqual(table_of(P, many, (("set", x, form),)), setting(many, x, form))

    def test_items_one_after_another(self):
        self.assertEqual(table_of(101, 1, (ADD, DOUBLE)), ((2, 2),))
        self.assertEqual(table_of(101, 1, (DOUBLE, ADD)), ((2, 1),))
        self.assertEqual(table_of(101, 2, (("set", 0, (1, 1, 0)), ("set", 1, (1, 1, 0)))), ((1, 1, 0), (1, 2, 0)))
        for spread, P, many in cases(50):
            one = spread.items(P, many, 5, 2, COUNTS)
            other = spread.items(P, many, 5, 2, COUNTS)
            both = then(P, table_of(P, many, one), table_of(P, many, other))
            self.assertEqual(table_of(P, many, one + other), both)

    def test_an_again_is_rounds_of_its_items(self):
        self.assertEqual(table_of(101, 1, (again(24, ADD),)), ((1, 24),))
        self.assertEqual(table_of(101, 1, (again(3, ADD, DOUBLE),)), ((8, 14),))
        self.assertEqual(table_of(101, 1, (again(MOST, again(MOST, again(MOST, ADD))),)), ((1, MOST**3 % 101),))
        self.assertEqual(table_of(101, 1, (again(0, ADD),)), idle(1))
        self.assertEqual(table_of(101, 1, (again(MOST, again(0, ADD)), ADD, again(MOST))), ((1, 1),))
        for spread, P, many in cases(51):
            items = spread.items(P, many, 5, 2, COUNTS)
            for n in COUNTS:
                told = rounds(P, table_of(P, many, items), n)
                self.assertEqual(table_of(P, many, (again(n, *items),)), told)

    def test_where_done_tells_a_stand_it_is_the_same(self):
        for spread, P, many in cases(52):
            for size in (1, 3, 8, 30):
                items = program(P, many, spread.items(P, many, size, 3, (0, 1, 2, 3, 6)))
                table = table_of(P, many, items)
                self.is_table(P, many, table)
                stands = all_stands(P, many) if P**many <= 30 else [spread.stand(P, many) for _ in range(5)]
                for stand in stands:
                    end = turned(P, table, stand)
                    self.assertEqual(end, done_by_hand(P, items, stand))
                    if deeds_in(items) <= 10000:
                        self.assertEqual(end, done(P, items, stand, 10000))

    def test_great_programs_are_told_too(self):
        for spread, P, many in cases(53):
            items = spread.items(P, many, 30, 3, (MOST, MOST - 1, 10**29 + 7))
            self.is_table(P, many, table_of(P, many, items))


class AfterTest(WheelTest):
    def test_by_hand(self):
        self.assertEqual(after(101, 1, (ADD, DOUBLE), 3, (5,)), (54,))
        self.assertEqual(after(101, 1, (ADD,), MOST, (5,)), ((5 + MOST) % 101,))
        self.assertEqual(after(9973, 1, (DOUBLE,), MOST, (5,)), (5 * pow(2, MOST, 9973) % 9973,))
        fibonacci = (("set", 0, (1, 1, 0)), ("set", 1, (1, 1, 0)))
        self.assertEqual(after(9973, 2, fibonacci, 10, (0, 1)), (6765, 973))

    def test_no_round_leaves_the_stand(self):
        for spread, P, many in cases(54):
            items = spread.items(P, many, 10, 3, COUNTS)
            stand = spread.stand(P, many)
            self.assertEqual(after(P, many, items, 0, stand), stand)

    def test_no_items_leave_the_stand(self):
        for n in COUNTS:
            self.assertEqual(after(7, 3, (), n, (1, 6, 0)), (1, 6, 0))
            self.assertEqual(after(7, 1, (again(MOST),), n, (6,)), (6,))

    def test_round_by_round(self):
        for spread, P, many in cases(55):
            items = spread.items(P, many, 8, 3, (0, 1, 2, 3))
            start = stand = spread.stand(P, many)
            for n in range(12):
                told = after(P, many, items, n, start)
                self.assertIs(type(told), tuple)
                self.assertEqual(told, stand)
                stand = done_by_hand(P, items, stand)

    def test_rounds_and_more_rounds(self):
        for spread, P, many in cases(56):
            items = spread.items(P, many, 8, 3, COUNTS)
            stand = spread.stand(P, many)
            for n in COUNTS:
                told = after(P, many, items, n, stand)
                self.assertEqual(len(told), many)
                self.assertTrue(all(number in range(P) for number in told))
                self.assertEqual(told, turned(P, table_of(P, many, (again(n, *items),)), stand))
                more = after(P, many, items, MOST - n, told)
                self.assertEqual(more, after(P, many, items, MOST, stand))

    def test_what_is_handed_in_stays(self):
        items = (ADD, again(3, DOUBLE))
        table = ((2, 3),)
        told = (ladder(7, table, 5), rounds(7, table, 5), table_of(7, 1, items), after(7, 1, items, 9, (5,)))
        again_told = (ladder(7, table, 5), rounds(7, table, 5), table_of(7, 1, items), after(7, 1, items, 9, (5,)))
        self.assertEqual(told, again_told)
        self.assertEqual((items, table), ((("set", 0, (1, 1)), ("again", 3, (("set", 0, (2, 0)),))), ((2, 3),)))
