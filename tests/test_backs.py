import unittest

from longrounds.backs import loss, missed, undone
from longrounds.errors import Lossy
from longrounds.making import after, table_of
from longrounds.programs import program
from longrounds.solving import idle_sums
from longrounds.tables import idle
from samples import (
    ADD, COUNTS, DOUBLE, MOST, PRIMES, RefusalTest, again, all_stands, cases, done_by_hand, with_own, without_loss,
    worth_by_hand,
)

WIPE = ("set", 0, (0, 4))
# On the wheel of 101: of each box, by the other one alone.
COPY_A = ("set", 0, (0, 1, 3))
COPY_B = ("set", 1, (1, 0, 5))
ADD_A = ("set", 0, (1, 1, 1))


def undone_by_hand(P, items):
    told = []
    for kind, number, rest in items[::-1]:
        if kind == "again":
            told.append((kind, number, undone_by_hand(P, rest) if number else ()))
        else:
            by = pow(rest[number], -1, P)
            told.append((kind, number, tuple(by if k == number else -by * n % P for k, n in enumerate(rest))))
    return tuple(told)


def some_lossy(spread, items):
    return with_own(items, lambda own: 0 if spread.number(4) == 0 else own or 1)


def deeds_traced(P, items, stand, place=()):
    """Each deed as it is done: the place of its set, the set, and the stands ahead of it and behind it."""
    for k, (kind, number, rest) in enumerate(items):
        if kind == "set":
            end = done_by_hand(P, items[k:k + 1], stand)
            yield place + (k,), items[k], stand, end
            stand = end
        else:
            for _ in range(number):
                for deed in deeds_traced(P, rest, stand, place + (k,)):
                    yield deed
                    stand = deed[3]


def is_bad(item):
    return item[0] == "set" and item[2][item[1]] == 0


def first_bad(P, items, stand):
    """Of the deeds that are done from the stand the first by which a number is lost, or None."""
    for place, item, ahead, _ in deeds_traced(P, items, stand):
        if is_bad(item):
            return place, item[1], ahead
    return None


def first_bad_of_many(P, many, items, stand):
    """The same for great agains: such a set is done in the first round of those around it, or never."""
    for k, item in enumerate(items):
        if is_bad(item):
            return (k,), item[1], stand
        if item[0] == "again" and item[1] > 0:
            within = first_bad_of_many(P, many, item[2], stand)
            if within is not None:
                return ((k,) + within[0],) + within[1:]
        stand = after(P, many, (item,), 1, stand)
    return None


def small_programs(seed, counts, rounds):
    """Programs on wheels that are so small that all stands can be walked, some with a loss, some without."""
    for spread, P, many in cases(seed):
        if P**many <= 130:
            for k in range(rounds):
                items = spread.items(P, many, 1 + spread.number(6), 3, counts)
                yield P, many, without_loss(items) if k % 3 == 0 else some_lossy(spread, items)


class BacksTest(RefusalTest):
    def undoes(self, P, many, items, told):
        self.assertEqual(undone(P, many, items), told)
        self.leads_back(P, many, items)

    def leads_back(self, P, many, items):
        """A program again, all of its numbers on the wheel, and idle with the other one in both orders."""
        told = undone(P, many, items)
        self.assertEqual(program(P, many, told), told)
        self.assertIs(type(told), tuple)
        self.assertEqual(table_of(P, many, items + told), idle(many))
        self.assertEqual(table_of(P, many, told + items), idle(many))
        self.assertIsNone(loss(P, many, items))
        self.assertIsNone(missed(P, many, items))

    def lossy(self, P, many, items):
        self.refused(Lossy, undone, P, many, items)
        self.assertIsNotNone(loss(P, many, items))
        self.assertIsNotNone(missed(P, many, items))


class UndoneTest(BacksTest):
    def test_no_items(self):
        for P in PRIMES:
            for many in (1, 2, 3):
                self.undoes(P, many, (), ())

    def test_sets_by_hand(self):
        self.undoes(7, 1, (ADD,), (("set", 0, (1, 6)),))
        self.undoes(7, 1, (DOUBLE,), (("set", 0, (4, 0)),))
        self.undoes(7, 1, (("set", 0, (3, 4)),), (("set", 0, (5, 1)),))
        self.undoes(7, 1, (("set", 0, (6, 6)),), (("set", 0, (6, 6)),))
        self.undoes(7, 1, (("set", 0, (1, 0)),), (("set", 0, (1, 0)),))
        self.undoes(7, 2, (("set", 0, (2, 3, 5)),), (("set", 0, (4, 2, 1)),))
        self.undoes(7, 2, (("set", 1, (2, 3, 5)),), (("set", 1, (4, 5, 3)),))
        self.undoes(7, 2, (("set", 1, (0, 1, 0)),), (("set", 1, (0, 1, 0)),))
        self.undoes(101, 3, (("set", 1, (10, 100, 20, 0)),), (("set", 1, (10, 100, 20, 0)),))
        self.undoes(101, 3, (("set", 2, (1, 0, 2, 4)),), (("set", 2, (50, 0, 51, 99)),))

    def test_only_the_own_multiple_must_not_be_nothing(self):
        for P in PRIMES:
            for many in (1, 2, 3):
                for x in range(many):
                    self.undoes(P, many, (("set", x, idle(many)[x]),), (("set", x, idle(many)[x]),))

    def test_turned_order(self):
        self.undoes(7, 1, (ADD, DOUBLE), (("set", 0, (4, 0)), ("set", 0, (1, 6))))
        self.undoes(7, 1, (DOUBLE, ADD), (("set", 0, (1, 6)), ("set", 0, (4, 0))))
        told = (again(2, ("set", 0, (4, 0))), again(3, ("set", 0, (4, 0)), ("set", 0, (1, 6))), ("set", 0, (1, 6)))
        self.undoes(7, 1, (ADD, again(3, ADD, DOUBLE), again(2, DOUBLE)), told)

    def test_agains(self):
        less = ("set", 0, (1, 6))
        for n in (1, 2, 10**18, MOST - 1, MOST):
            self.undoes(7, 1, (again(n, ADD),), (again(n, less),))
            self.undoes(7, 1, (again(n),), (again(n),))
        self.undoes(7, 1, (again(2, again(3, again(MOST, ADD))),), (again(2, again(3, again(MOST, less))),))
        self.undoes(7, 1, (again(2, ADD, again(3, DOUBLE)),), (again(2, again(3, ("set", 0, (4, 0))), less),))

    def test_agains_of_nothing(self):
        self.undoes(7, 1, (again(0),), (again(0),))
        self.undoes(7, 1, (again(0, ADD),), (again(0),))
        self.undoes(7, 1, (again(0, WIPE),), (again(0),))
        self.undoes(7, 1, (again(0, again(MOST, WIPE)),), (again(0),))
        self.undoes(7, 1, (again(MOST, again(0, WIPE), again(5)),), (again(MOST, again(5), again(0)),))
        self.undoes(7, 1, (again(2, again(3, again(0, WIPE, ADD))),), (again(2, again(3, again(0))),))

    def test_programs_of_many_kinds(self):
        for spread, P, many in cases(81):
            for size in (1, 3, 8, 30):
                items = without_loss(spread.items(P, many, size, 3, COUNTS))
                self.undoes(P, many, items, undone_by_hand(P, items))

    def test_what_undoes_the_undone(self):
        for spread, P, many in cases(82):
            items = without_loss(spread.items(P, many, 12, 3, COUNTS[1:]))
            self.assertEqual(undone(P, many, undone(P, many, items)), items)

    def test_from_every_start_deed_by_deed(self):
        for P, many, items in small_programs(83, (0, 1, 2, 3), 9):
            items = without_loss(items)
            told = undone(P, many, items)
            for stand in all_stands(P, many):
                self.assertEqual(done_by_hand(P, told, done_by_hand(P, items, stand)), stand)
                self.assertEqual(done_by_hand(P, items, done_by_hand(P, told, stand)), stand)


class LossyTest(BacksTest):
    def test_at_the_outermost_place(self):
        for P in PRIMES:
            for many in (1, 2, 3):
                for x in range(many):
                    for number in (0, 1, P - 1):
                        form = (number,) * x + (0,) + (number,) * (many - x)
                        self.lossy(P, many, (("set", x, form),))
        for items in ((WIPE, ADD), (ADD, WIPE), (again(0, WIPE), WIPE), (again(0, ADD), WIPE), (WIPE, again(0, WIPE))):
            self.lossy(7, 1, items)

    def test_within_agains(self):
        for n in (1, 2, MOST):
            self.lossy(7, 1, (again(n, WIPE),))
            self.lossy(7, 1, (again(1, again(n, WIPE)),))
            self.lossy(7, 1, (again(n, again(1, WIPE)),))
            self.lossy(7, 1, (again(n, again(n, again(n, WIPE))),))
            self.lossy(7, 1, (ADD, again(n, ADD, again(n, again(0, WIPE), again(n, ADD, WIPE, ADD)))))

    def test_not_where_it_is_never_done(self):
        for n in (1, 2, MOST):
            self.leads_back(7, 1, (again(0, again(n, WIPE)),))
            self.leads_back(7, 1, (again(n, again(0, WIPE)),))
            self.leads_back(7, 1, (ADD, again(n, again(n, again(0, WIPE)), ADD), again(0, WIPE)))

    def test_just_where_ends_are_fewer_than_starts(self):
        seen = {True: 0, False: 0}
        for P, many, items in small_programs(84, (0, 1, 2), 30):
            ends = {done_by_hand(P, items, stand) for stand in all_stands(P, many)}
            bad = first_bad(P, items, (0,) * many) is not None
            self.assertEqual(bad, len(ends) < P**many)
            seen[bad] += 1
            if bad:
                self.lossy(P, many, items)
            else:
                self.leads_back(P, many, items)
        self.assertGreater(min(seen.values()), 50)


class LossTest(BacksTest):
    def told_right(self, P, many, items):
        told = loss(P, many, items)
        self.assertIs(type(told), tuple)
        place, one, other, end = told
        for part in told:
            self.assertIs(type(part), tuple)
        self.assertNotEqual(one, other)
        zero = (0,) * many
        bad_place, x, ahead = first_bad_of_many(P, many, items, one)
        self.assertEqual((place, zero), (bad_place, ahead))
        bad_place, x, ahead = first_bad_of_many(P, many, items, other)
        self.assertEqual((place, zero[:x] + (1,) + zero[x + 1:]), (bad_place, ahead))
        self.assertEqual(after(P, many, items, 1, one), end)
        self.assertEqual(after(P, many, items, 1, other), end)
        return told

    def loses(self, P, many, items, *told):
        self.assertEqual(self.told_right(P, many, items), told)

    def test_none_where_it_can_be_undone(self):
        self.assertIsNone(loss(7, 1, ()))
        self.assertIsNone(loss(7, 1, (ADD, again(0, WIPE), again(MOST, DOUBLE, again(0, WIPE)))))
        for spread, P, many in cases(85):
            self.assertIsNone(loss(P, many, without_loss(spread.items(P, many, 20, 3, COUNTS))))

    def test_the_first_item(self):
        self.loses(7, 1, (WIPE,), (0,), (0,), (1,), (4,))
        self.loses(7, 1, (WIPE, ADD), (0,), (0,), (1,), (5,))
        self.loses(101, 2, (COPY_A,), (0,), (0, 0), (1, 0), (3, 0))
        self.loses(101, 2, (COPY_B,), (0,), (0, 0), (0, 1), (0, 5))
        self.loses(101, 3, (("set", 2, (1, 1, 0, 9)),), (0,), (0, 0, 0), (0, 0, 1), (0, 0, 9))

    def test_behind_others(self):
        self.loses(7, 1, (ADD, WIPE), (1,), (6,), (0,), (4,))
        self.loses(7, 1, (ADD, DOUBLE, WIPE, ADD), (2,), (6,), (3,), (5,))
        self.loses(101, 2, (ADD_A, COPY_B), (1,), (100, 0), (99, 1), (0, 5))
        self.loses(101, 2, (ADD_A, COPY_A), (1,), (100, 0), (0, 0), (3, 0))

    def test_behind_agains_that_do_nothing(self):
        self.loses(7, 1, (again(0, WIPE), WIPE), (1,), (0,), (1,), (4,))
        self.loses(7, 1, (again(MOST, again(0, WIPE)), again(MOST), ADD, WIPE), (3,), (6,), (0,), (4,))
        self.loses(7, 1, (again(2, again(0, WIPE), ADD, WIPE),), (0, 2), (6,), (0,), (4,))

    def test_within_agains(self):
        self.loses(7, 1, (again(1, WIPE),), (0, 0), (0,), (1,), (4,))
        self.loses(7, 1, (ADD, again(3, DOUBLE, WIPE, ADD)), (1, 1), (6,), (3,), (5,))
        self.loses(7, 1, (ADD, again(3, DOUBLE, again(2, ADD, WIPE))), (1, 1, 1), (2,), (6,), (4,))
        deep = (ADD, again(3, DOUBLE, again(2, ADD, ADD, again(MOST, DOUBLE, WIPE), ADD)))
        self.loses(7, 1, deep, (1, 1, 2, 1), (5,), (0,), (5,))
        self.loses(101, 2, (again(MOST, ADD_A, again(MOST, COPY_B)),), (0, 1, 0), (100, 0), (99, 1), (98, 2))

    def test_another_one_comes_later(self):
        self.loses(7, 1, (WIPE, ("set", 0, (0, 2))), (0,), (0,), (1,), (2,))
        self.loses(7, 1, (ADD, again(2, WIPE), ("set", 0, (0, 2))), (1, 0), (6,), (0,), (2,))
        self.loses(101, 2, (COPY_B, COPY_A), (0,), (0, 0), (0, 1), (8, 5))
        self.loses(101, 2, (again(2, COPY_A, COPY_B),), (0, 0), (0, 0), (1, 0), (11, 16))
        self.loses(101, 2, (again(2, COPY_B), COPY_A), (0, 0), (0, 0), (0, 1), (8, 5))

    def test_great_agains_ahead(self):
        self.loses(101, 1, (again(MOST, ADD), WIPE), (1,), (-MOST % 101,), ((1 - MOST) % 101,), (4,))
        for spread, P, many in cases(86):
            for size in (4, 9, 20):
                items = some_lossy(spread, spread.items(P, many, size, 3, COUNTS))
                if first_bad_of_many(P, many, items, (0,) * many) is not None:
                    self.told_right(P, many, items)
                ahead = without_loss(spread.items(P, many, size // 2, 3, COUNTS))
                within = without_loss(spread.items(P, many, size // 2, 2, COUNTS))
                bad = ("set", many - 1, (1,) * (many - 1) + (0, 2))
                told = self.told_right(P, many, ahead + (again(MOST, *within, bad, *within),))
                self.assertEqual(told[0], (len(ahead), len(within)))

    def test_as_traced_deed_by_deed(self):
        for P, many, items in small_programs(87, (0, 1, 2, 3), 20):
            zero = (0,) * many
            bad = first_bad(P, items, zero)
            if bad is None:
                self.assertIsNone(loss(P, many, items))
                continue
            place, one, other, end = loss(P, many, items)
            x = bad[1]
            self.assertEqual(first_bad(P, items, one), (place, x, zero))
            self.assertEqual(first_bad(P, items, other), (place, x, zero[:x] + (1,) + zero[x + 1:]))
            self.assertEqual(done_by_hand(P, items, one), end)
            self.assertEqual(done_by_hand(P, items, other), end)


class MissedTest(BacksTest):
    def told_right(self, P, many, items, tried):
        told = missed(P, many, items)
        self.assertIs(type(told), tuple)
        form, n, stand = told
        self.assertIs(type(form), tuple)
        self.assertIs(type(n), int)
        self.assertEqual(form[many:], (0,))
        rows = [row[:many] for row in table_of(P, many, items)]
        self.assertEqual(form[:many], idle_sums(P, rows)[0])
        for start in tried:
            self.assertEqual(worth_by_hand(P, form, after(P, many, items, 1, start)), n)
        told_starts = [(0,) * many] + [tuple(int(k == x) for k in range(many)) for x in range(many)]
        self.assertEqual(stand, [start for start in told_starts if worth_by_hand(P, form, start) != n][0])

    def misses(self, P, many, items, *told):
        self.assertEqual(missed(P, many, items), told)
        self.told_right(P, many, items, all_stands(P, many) if P**many < 1000 else [(0,) * many, (1,) * many])

    def test_none_where_it_can_be_undone(self):
        self.assertIsNone(missed(7, 1, ()))
        self.assertIsNone(missed(7, 1, (ADD, again(0, WIPE), again(MOST, DOUBLE, again(0, WIPE)))))
        for spread, P, many in cases(88):
            self.assertIsNone(missed(P, many, without_loss(spread.items(P, many, 20, 3, COUNTS))))

    def test_one_box(self):
        self.misses(7, 1, (WIPE,), (1, 0), 4, (0,))
        self.misses(7, 1, (("set", 0, (0, 0)),), (1, 0), 0, (1,))
        self.misses(7, 1, (("set", 0, (0, 1)),), (1, 0), 1, (0,))
        self.misses(101, 1, (again(MOST, WIPE, ADD),), (1, 0), 5, (0,))

    def test_two_boxes(self):
        self.misses(7, 2, (("set", 0, (0, 1, 0)),), (1, 6, 0), 0, (1, 0))
        self.misses(7, 2, (("set", 0, (0, 1, 3)),), (1, 6, 0), 3, (0, 0))
        self.misses(7, 2, (("set", 1, (0, 0, 0)),), (0, 1, 0), 0, (0, 1))
        self.misses(7, 2, (("set", 1, (0, 0, 1)),), (0, 1, 0), 1, (0, 0))
        self.misses(7, 2, (("set", 1, (2, 0, 0)),), (1, 3, 0), 0, (1, 0))
        self.misses(7, 2, (("set", 0, (0, 0, 2)), ("set", 1, (0, 0, 5))), (1, 0, 0), 2, (0, 0))
        self.misses(7, 2, (("set", 0, (0, 0, 0)), ("set", 1, (0, 0, 5))), (1, 0, 0), 0, (1, 0))

    def test_three_boxes(self):
        self.misses(7, 3, (("set", 2, (0, 0, 0, 0)),), (0, 0, 1, 0), 0, (0, 0, 1))
        self.misses(7, 3, (("set", 1, (0, 0, 0, 0)),), (0, 1, 0, 0), 0, (0, 1, 0))
        self.misses(7, 3, (("set", 2, (1, 1, 0, 0)),), (1, 1, 6, 0), 0, (1, 0, 0))
        both = (("set", 1, (0, 0, 0, 3)), ("set", 2, (0, 0, 0, 4)))
        self.misses(7, 3, both, (0, 1, 0, 0), 3, (0, 0, 0))

    def test_great_programs(self):
        for spread, P, many in cases(89):
            for size in (4, 9, 30):
                items = some_lossy(spread, spread.items(P, many, size, 3, COUNTS))
                if first_bad_of_many(P, many, items, (0,) * many) is not None:
                    self.told_right(P, many, items, [spread.stand(P, many) for _ in range(10)])

    def test_it_is_no_end(self):
        for P, many, items in small_programs(90, (0, 1, 2), 20):
            ends = {done_by_hand(P, items, stand) for stand in all_stands(P, many)}
            if len(ends) == P**many:
                self.assertIsNone(missed(P, many, items))
            else:
                form, n, stand = missed(P, many, items)
                self.assertNotIn(stand, ends)
                self.assertEqual({worth_by_hand(P, form, end) for end in ends}, {n})
                self.told_right(P, many, items, all_stands(P, many))


class OwnTest(unittest.TestCase):
    def test_what_is_handed_in_stays(self):
        items = (ADD, again(3, DOUBLE, again(0, WIPE)))
        lossy = (ADD, again(3, DOUBLE, WIPE))
        for asked in (undone, loss, missed):
            self.assertEqual(asked(7, 1, items), asked(7, 1, items))
        for asked in (loss, missed):
            self.assertEqual(asked(7, 1, lossy), asked(7, 1, lossy))
        with self.assertRaises(Lossy):
            undone(7, 1, lossy)
        add, double, wipe = ("set", 0, (1, 1)), ("set", 0, (2, 0)), ("set", 0, (0, 4))
        self.assertEqual(items, (add, ("again", 3, (double, ("again", 0, (wipe,))))))
        self.assertEqual(lossy, (add, ("again", 3, (double, wipe))))
