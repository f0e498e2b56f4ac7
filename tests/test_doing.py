from longrounds.doing import done
from longrounds.errors import TooLong
from longrounds.programs import deeds_in
from samples import ADD, DOUBLE, MOST, RefusalTest, again, cases, done_by_hand


class DoingTest(RefusalTest):
    def leads(self, P, items, stand, end):
        """To the end with just as many deeds let as are done, and with more; not with one fewer."""
        deeds = deeds_in(items)
        for most in (deeds, deeds + 1, 10000):
            told = done(P, items, stand, most)
            self.assertEqual(told, end)
            self.assertIs(type(told), tuple)
            for number in told:
                self.assertIs(type(number), int)
                self.assertIn(number, range(P))
        if deeds > 0:
            self.too_long(P, items, stand, deeds - 1)
            self.too_long(P, items, stand, 0)

    def too_long(self, P, items, stand, most):
        self.refused(TooLong, done, P, items, stand, most)


class DoneTest(DoingTest):
    def test_no_deed(self):
        self.leads(7, (), (5,), (5,))
        self.leads(7, (), (5, 6, 0), (5, 6, 0))
        self.leads(7, (again(0, ADD),), (5,), (5,))

    def test_one_set(self):
        self.leads(7, (ADD,), (5,), (6,))
        self.leads(7, (ADD,), (6,), (0,))
        self.leads(7, (("set", 0, (3, 4)),), (5,), (5,))
        self.leads(11, (("set", 1, (2, 3, 5)),), (7, 10), (7, 5))
        self.leads(101, (("set", 2, (1, 10, 100, 50)),), (3, 4, 5), (3, 4, 88))
        self.leads(101, (("set", 1, (0, 0, 0, 9)),), (3, 4, 5), (3, 9, 5))

    def test_each_set_sees_the_stand_as_it_is_then(self):
        sum_to_a = ("set", 0, (1, 1, 0))
        sum_to_b = ("set", 1, (1, 1, 0))
        self.leads(101, (sum_to_a, sum_to_b), (2, 3), (5, 8))
        self.leads(101, (sum_to_b, sum_to_a), (2, 3), (7, 5))
        swap = (("set", 0, (1, 1, 0)), ("set", 1, (1, 100, 0)), ("set", 0, (1, 100, 0)))
        self.leads(101, swap, (2, 3), (3, 2))

    def test_items_in_their_order(self):
        self.leads(101, (ADD, DOUBLE), (5,), (12,))
        self.leads(101, (DOUBLE, ADD), (5,), (11,))

    def test_agains(self):
        self.leads(101, (again(3, ADD),), (5,), (8,))
        self.leads(101, (again(1, ADD),), (5,), (6,))
        self.leads(101, (again(3, ADD, DOUBLE),), (5,), (54,))
        self.leads(101, (ADD, again(3, DOUBLE), ADD), (5,), (49,))
        fibonacci = again(10, ("set", 0, (1, 1, 0)), ("set", 1, (1, 1, 0)))
        self.leads(9973, (fibonacci,), (0, 1), (6765, 973))

    def test_agains_within_agains(self):
        self.leads(101, (again(2, again(3, again(4, ADD))),), (0,), (24,))
        self.leads(101, (again(2, ADD, again(2, DOUBLE, again(2, ADD)), ADD),), (0,), (55,))

    def test_agains_that_do_no_deed_end_at_once(self):
        for idle in (again(MOST), again(MOST, again(MOST, again(MOST))), again(MOST, again(0, ADD)), again(0)):
            self.leads(7, (idle,), (5,), (5,))
            self.leads(7, (ADD, idle, ADD), (5,), (0,))
            self.leads(7, (again(3, idle, ADD, idle),), (2,), (5,))
            self.leads(7, (again(MOST, idle), idle), (2,), (2,))
        self.leads(7, (again(MOST, again(MOST, again(0, ADD))), ADD), (2,), (3,))

    def test_as_walked_by_hand(self):
        for spread, P, many in cases(31):
            for size in (1, 4, 9, 30):
                items = spread.items(P, many, size, 3, (0, 1, 2, 3, 4))
                stand = spread.stand(P, many)
                self.leads(P, items, stand, done_by_hand(P, items, stand))

    def test_ten_thousand_deeds(self):
        self.leads(9973, (again(10000, ADD),), (0,), (27,))
        self.leads(9973, (again(100, again(10, again(10, ADD))),), (0,), (27,))
        self.leads(9973, (again(10000, again(MOST), again(MOST, again(0, ADD)), ADD),), (9972,), (26,))


class TooLongTest(DoingTest):
    def test_just_one_too_many(self):
        for many in range(1, 31):
            items = (ADD,) * many
            self.leads(101, items, (3,), (3 + many,))
        self.too_long(7, (again(10001, ADD),), (5,), 10000)
        self.too_long(7, (again(10000, ADD), ADD), (5,), 10000)
        self.too_long(7, (again(5000, ADD, ADD), again(1, ADD)), (5,), 10000)

    def test_no_deed_let(self):
        self.too_long(7, (ADD,), (5,), 0)
        self.assertEqual(done(7, (again(MOST),), (5,), 0), (5,))
        self.assertEqual(done(7, (), (5,), 0), (5,))

    def test_told_without_doing_the_deeds(self):
        for n in (10**9, MOST):
            for items in ((again(n, ADD),), (again(n, again(n, again(n, ADD))),), (ADD, again(2, again(n, ADD)))):
                for most in (0, 1, 9999, 10000):
                    self.too_long(7, items, (5,), most)

    def test_what_is_handed_in_stays(self):
        items = (ADD, again(3, DOUBLE))
        stand = (5,)
        self.assertEqual(done(7, items, stand, 4), done(7, items, stand, 4))
        self.assertEqual((items, stand), ((("set", 0, (1, 1)), ("again", 3, (("set", 0, (2, 0)),))), (5,)))
