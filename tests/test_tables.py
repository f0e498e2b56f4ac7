from longrounds.tables import idle, setting, then, turned, worth
from samples import PRIMES, WheelTest, cases, sample_stands, worth_by_hand


class WorthTest(WheelTest):
    def test_one_box(self):
        self.assertEqual(worth(7, (3, 4), (5,)), 5)
        self.assertEqual(worth(7, (0, 4), (5,)), 4)
        self.assertEqual(worth(7, (1, 0), (5,)), 5)
        self.assertEqual(worth(3, (2, 2), (2,)), 0)

    def test_two_boxes(self):
        self.assertEqual(worth(11, (2, 3, 5), (7, 10)), 5)
        self.assertEqual(worth(11, (0, 1, 0), (7, 10)), 10)
        self.assertEqual(worth(11, (1, 0, 10), (7, 10)), 6)

    def test_three_boxes(self):
        self.assertEqual(worth(101, (1, 10, 100, 50), (3, 4, 5)), 88)
        self.assertEqual(worth(9973, (9972, 9972, 9972, 9972), (9972, 9972, 9972)), 2)
        self.assertEqual(worth(9973, (0, 0, 0, 0), (9972, 9972, 9972)), 0)

    def test_the_worth_is_on_the_wheel(self):
        for spread, P, many in cases(11):
            form = spread.form(P, many)
            for stand in sample_stands(spread, P, many):
                told = worth(P, form, stand)
                self.assertIs(type(told), int)
                self.assertIn(told, range(P))
                self.assertEqual(told, worth_by_hand(P, form, stand))


class TurnedTest(WheelTest):
    def test_one_box(self):
        self.assertEqual(turned(7, ((3, 4),), (5,)), (5,))
        self.assertEqual(turned(7, ((0, 0),), (5,)), (0,))

    def test_all_boxes_at_once(self):
        self.assertEqual(turned(7, ((0, 1, 0), (1, 0, 0)), (2, 5)), (5, 2))
        self.assertEqual(turned(7, ((1, 1, 0), (1, 1, 0)), (2, 3)), (5, 5))
        circle = ((0, 1, 0, 0), (0, 0, 1, 0), (1, 0, 0, 0))
        self.assertEqual(turned(7, circle, (1, 2, 3)), (2, 3, 1))
        self.assertEqual(turned(101, ((1, 1, 1, 1), (1, 1, 1, 2), (1, 1, 1, 3)), (30, 40, 50)), (20, 21, 22))

    def test_each_box_has_its_form_worth(self):
        for spread, P, many in cases(11):
            table = spread.table(P, many)
            for stand in sample_stands(spread, P, many):
                told = turned(P, table, stand)
                self.is_row(P, many, told)
                self.assertEqual(told, tuple(worth_by_hand(P, form, stand) for form in table))


class IdleTest(WheelTest):
    def test_the_tables(self):
        self.assertEqual(idle(1), ((1, 0),))
        self.assertEqual(idle(2), ((1, 0, 0), (0, 1, 0)))
        self.assertEqual(idle(3), ((1, 0, 0, 0), (0, 1, 0, 0), (0, 0, 1, 0)))

    def test_each_stand_is_left_as_it_is(self):
        for spread, P, many in cases(11):
            self.is_table(P, many, idle(many))
            for stand in sample_stands(spread, P, many):
                self.assertEqual(turned(P, idle(many), stand), stand)


class ThenTest(WheelTest):
    def test_the_first_table_goes_first(self):
        self.assertEqual(then(7, ((2, 0),), ((1, 3),)), ((2, 3),))
        self.assertEqual(then(7, ((1, 3),), ((2, 0),)), ((2, 6),))
        self.assertEqual(then(5, ((3, 4),), ((4, 4),)), ((2, 0),))

    def test_two_boxes_by_hand(self):
        one = ((1, 2, 3), (4, 5, 6))
        other = ((0, 1, 2), (3, 4, 5))
        self.assertEqual(then(7, one, other), ((4, 5, 1), (5, 5, 3)))
        self.assertEqual(then(7, other, one), ((6, 2, 1), (1, 3, 4)))

    def test_three_boxes_by_hand(self):
        one = ((1, 0, 0, 1), (0, 1, 0, 2), (0, 0, 1, 3))
        other = ((0, 1, 0, 0), (0, 0, 1, 0), (2, 0, 0, 10))
        self.assertEqual(then(11, one, other), ((0, 1, 0, 2), (0, 0, 1, 3), (2, 0, 0, 1)))
        self.assertEqual(then(11, other, one), ((0, 1, 0, 1), (0, 0, 1, 2), (2, 0, 0, 2)))

    def test_each_stand_goes_through_the_first_and_then_the_other(self):
        for spread, P, many in cases(11):
            for _ in range(4):
                one = spread.table(P, many)
                other = spread.table(P, many)
                both = then(P, one, other)
                self.is_table(P, many, both)
                for stand in sample_stands(spread, P, many):
                    self.assertEqual(turned(P, both, stand), turned(P, other, turned(P, one, stand)))

    def test_the_greatest_numbers_stay_on_the_wheel(self):
        for P in PRIMES:
            for many in (1, 2, 3):
                full = ((P - 1,) * (many + 1),) * many
                told = (many % P,) * many + ((many - 1) % P,)
                self.assertEqual(then(P, full, full), (told,) * many)

    def test_grouping_does_not_matter(self):
        for spread, P, many in cases(11):
            for _ in range(4):
                one, two, three = [spread.table(P, many) for _ in range(3)]
                early = then(P, then(P, one, two), three)
                late = then(P, one, then(P, two, three))
                self.assertEqual(early, late)

    def test_the_idle_table_changes_nothing(self):
        for spread, P, many in cases(11):
            table = spread.table(P, many)
            self.assertEqual(then(P, idle(many), table), table)
            self.assertEqual(then(P, table, idle(many)), table)
            self.assertEqual(then(P, idle(many), idle(many)), idle(many))


class SettingTest(WheelTest):
    def test_the_tables(self):
        self.assertEqual(setting(1, 0, (5, 6)), ((5, 6),))
        self.assertEqual(setting(2, 0, (5, 6, 7)), ((5, 6, 7), (0, 1, 0)))
        self.assertEqual(setting(2, 1, (5, 6, 7)), ((1, 0, 0), (5, 6, 7)))
        self.assertEqual(setting(3, 0, (5, 6, 7, 8)), ((5, 6, 7, 8), (0, 1, 0, 0), (0, 0, 1, 0)))
        self.assertEqual(setting(3, 1, (5, 6, 7, 8)), ((1, 0, 0, 0), (5, 6, 7, 8), (0, 0, 1, 0)))
        self.assertEqual(setting(3, 2, (5, 6, 7, 8)), ((1, 0, 0, 0), (0, 1, 0, 0), (5, 6, 7, 8)))

    def test_its_box_has_the_worth_and_the_others_are_left(self):
        for spread, P, many in cases(11):
            for x in range(many):
                form = spread.form(P, many)
                table = setting(many, x, form)
                self.is_table(P, many, table)
                for stand in sample_stands(spread, P, many):
                    told = list(stand)
                    told[x] = worth_by_hand(P, form, stand)
                    self.assertEqual(turned(P, table, stand), tuple(told))

    def test_one_setting_does_not_show_in_another_one(self):
        first = setting(2, 0, (5, 6, 7))
        second = setting(2, 1, (1, 1, 1))
        self.assertEqual(first, ((5, 6, 7), (0, 1, 0)))
        self.assertEqual(second, ((1, 0, 0), (1, 1, 1)))
        self.assertEqual(idle(2), ((1, 0, 0), (0, 1, 0)))


class HandedInTest(WheelTest):
    def test_asking_again_in_another_order_tells_the_same(self):
        P, one, other, stand = 7, ((1, 2, 3), (4, 5, 6)), ((0, 1, 2), (3, 4, 5)), (2, 6)
        told = (worth(P, one[0], stand), turned(P, one, stand), then(P, one, other))
        setting(2, 1, one[0])
        then(P, other, one)
        turned(5, other, (4, 4))
        self.assertEqual(told, (worth(P, one[0], stand), turned(P, one, stand), then(P, one, other)))
        self.assertEqual((one, other, stand), (((1, 2, 3), (4, 5, 6)), ((0, 1, 2), (3, 4, 5)), (2, 6)))
