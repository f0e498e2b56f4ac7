import copy
import unittest

from longrounds.errors import NoPrime, NoProgram
from longrounds.programs import deeds_in, program
from samples import MOST, PRIMES, RefusalTest, Spread, again

SIXTY = 10**60 - 1
SET = ("set", 0, (1, 1))


def as_lists(items):
    return [it if it[0] == "set" else (it[0], it[1], as_lists(it[2])) for it in items]


def as_mixed(items, lists=True):
    made = [it if it[0] == "set" else (it[0], it[1], as_mixed(it[2], not lists)) for it in items]
    return made if lists else tuple(made)


def off_the_wheel(P, items, shift):
    told = []
    for kind, number, rest in items:
        if kind == "set":
            told.append((kind, number, tuple(n + shift * P for n in rest)))
        else:
            told.append((kind, number, off_the_wheel(P, rest, shift)))
    return tuple(told)


class ProgramTest(RefusalTest):
    def is_program(self, P, many, items):
        self.assertIs(type(items), tuple)
        for item in items:
            self.assertIs(type(item), tuple)
            self.assertEqual(len(item), 3)
            self.assertIs(type(item[1]), int)
            if item[0] == "set":
                self.assertIn(item[1], range(many))
                self.assertIs(type(item[2]), tuple)
                self.assertEqual(len(item[2]), many + 1)
                for number in item[2]:
                    self.assertIs(type(number), int)
                    self.assertIn(number, range(P))
            else:
                self.assertEqual(item[0], "again")
                self.is_program(P, many, item[2])

    def becomes(self, P, many, items, told):
        ahead = copy.deepcopy(items)
        made = program(P, many, items)
        self.assertEqual(made, told)
        self.is_program(P, many, made)
        self.assertEqual(items, ahead)

    def refused(self, refusal, P, many, items):
        super().refused(refusal, program, P, many, items)

    def refused_everywhere(self, many, *items):
        """Outermost, behind other items, and within agains, also within one of 0."""
        good = ("set", 0, (1,) * (many + 1))
        self.refused(NoProgram, 7, many, items)
        self.refused(NoProgram, 7, many, list(items))
        self.refused(NoProgram, 7, many, [good] + list(items))
        self.refused(NoProgram, 7, many, list(items) + [good])
        for n in (0, 1, MOST):
            self.refused(NoProgram, 7, many, [("again", n, items)])
            self.refused(NoProgram, 7, many, (good, ("again", n, list(items)), good))


class TakenTest(ProgramTest):
    def test_no_items(self):
        for P in PRIMES:
            for many in (1, 2, 3):
                self.becomes(P, many, [], ())
                self.becomes(P, many, (), ())

    def test_sets_of_each_box(self):
        for many in (1, 2, 3):
            form = (5, 6, 0, 4)[:many] + (3,)
            for x in range(many):
                self.becomes(7, many, [("set", x, form)], (("set", x, form),))

    def test_items_keep_their_order(self):
        sets = tuple(("set", n % 2, (n, 0, 1)) for n in (3, 1, 2, 0))
        self.becomes(7, 2, list(sets), sets)
        self.becomes(7, 2, [again(2, *sets), sets[1], again(1)], (again(2, *sets), sets[1], again(1)))

    def test_lists_and_tuples_become_tuples(self):
        told = (SET, again(2, again(3), again(4, SET, again(5, SET))), SET)
        for items in (told, list(told), as_lists(told), as_mixed(told), as_mixed(told, False)):
            self.becomes(7, 1, items, told)

    def test_numbers_of_forms_come_onto_the_wheel(self):
        self.becomes(7, 1, [("set", 0, (7, -1))], (("set", 0, (0, 6)),))
        self.becomes(7, 2, [("set", 1, (8, -8, 6))], (("set", 1, (1, 6, 6)),))
        self.becomes(3, 1, [again(0, ("set", 0, (-3, 5)))], (again(0, ("set", 0, (0, 2))),))
        self.becomes(7, 1, [("set", 0, (SIXTY, -SIXTY))], (("set", 0, (SIXTY % 7, -SIXTY % 7)),))
        deep = ("again", 2, [("again", 2, [("again", 2, [("set", 0, (-1, 9))])])])
        self.becomes(7, 1, [deep], (again(2, again(2, again(2, ("set", 0, (6, 2))))),))

    def test_the_edges_of_n(self):
        for n in (0, 1, 2, MOST - 1, MOST):
            self.becomes(7, 1, [again(n)], (again(n),))
            self.becomes(7, 1, [again(n, SET)], (again(n, SET),))
            self.becomes(7, 1, [again(0, again(n, again(n, SET)))], (again(0, again(n, again(n, SET))),))

    def test_thirty_items(self):
        for items in (
            (SET,) * 30, (again(1),) * 30, (again(1, SET),) * 15, (again(1, *(SET,) * 29),),
            (again(0, again(0, again(0, *(SET,) * 27))),), (SET,) * 10 + (again(2, *(SET,) * 9),) * 2,
        ):
            self.becomes(7, 1, list(items), items)

    def test_agains_three_deep(self):
        for n in (0, 1, MOST):
            self.becomes(7, 1, [again(n, again(n, again(n)))], (again(n, again(n, again(n))),))
        beside = again(1, again(2, again(3), again(4), SET), again(5, again(6)))
        self.becomes(7, 1, [beside, beside], (beside, beside))

    def test_programs_of_many_kinds(self):
        spread = Spread(21)
        for P in PRIMES:
            for many in (1, 2, 3):
                for size in (1, 5, 12, 30):
                    items = spread.items(P, many, size, 3, (0, 1, 2, 7, MOST))
                    for shift in (0, 1, -1, 10**20, -(10**20)):
                        handed = off_the_wheel(P, items, shift)
                        self.becomes(P, many, handed, items)
                        self.becomes(P, many, as_lists(handed), items)
                        self.becomes(P, many, as_mixed(handed), items)

    def test_a_program_becomes_itself(self):
        made = program(7, 2, [("set", 1, (-1, 8, 0)), ("again", 3, [("set", 0, (1, 1, 1))])])
        self.becomes(7, 2, made, made)

    def test_what_was_handed_in_may_change_later(self):
        inner = [SET]
        outer = [("again", 2, inner), SET]
        made = program(7, 1, outer)
        inner.append(SET)
        outer.clear()
        self.assertEqual(made, (again(2, SET), SET))
        self.assertEqual(program(7, 1, outer), ())


class NoPrimeTest(ProgramTest):
    def test_what_is_no_prime(self):
        for P in (0, 1, 2, 4, 9, -3, -7, 9991, 9999, 10007, SIXTY, -SIXTY):
            self.refused(NoPrime, P, 1, [SET])
            self.refused(NoPrime, P, 2, [])

    def test_whatever_else_is_wrong(self):
        for items in (
            [SET] * 31, [again(1, again(1, again(1, again(1))))], [again(-1)], [again(MOST + 1)],
            [("set", 1, (1, 1))], [("set", 0, (1,))], [again(0, ("set", -1, (1, 1, 1)))],
        ):
            for many in (0, 1, 4, -1):
                self.refused(NoPrime, 9, many, items)
                self.refused(NoPrime, 2, many, tuple(items))

    def test_the_edges_among_the_primes(self):
        self.becomes(3, 1, [SET], (SET,))
        self.becomes(9973, 1, [SET], (SET,))


class NoProgramTest(ProgramTest):
    def test_the_number_of_boxes(self):
        for many in (0, 4, 5, -1, -2, -3, SIXTY, -SIXTY):
            self.refused(NoProgram, 7, many, [])
            self.refused(NoProgram, 7, many, ())
            self.refused(NoProgram, 7, many, [SET])
            self.refused(NoProgram, 7, many, [("set", 0, (1,) * (min(abs(many), 9) + 1))])

    def test_truths_are_no_numbers(self):
        self.refused(NoProgram, 7, True, [])
        self.refused(NoPrime, True, 1, [])

    def test_thirty_one_items_beside_one_another(self):
        for items in ((SET,) * 31, (again(1),) * 31, (SET,) * 100, (SET, again(0)) * 15 + (SET,)):
            self.refused(NoProgram, 7, 1, items)
            self.refused(NoProgram, 7, 1, list(items))

    def test_thirty_one_items_within_agains(self):
        for n in (0, 1, MOST):
            for items in (
                (again(n, *(SET,) * 30),), (again(n, *(SET,) * 15), again(n, *(SET,) * 14)),
                (again(n, again(n, again(n, *(SET,) * 28))),), (again(n, SET),) * 15 + (SET,),
                (SET,) * 29 + (again(n, SET),), (again(n, SET),) + (SET,) * 29, (again(n, again(n)),) * 15 + (SET,),
            ):
                self.refused(NoProgram, 7, 1, items)
                self.refused(NoProgram, 7, 1, as_lists(items))

    def test_the_same_items_at_very_many_places(self):
        items = (SET,) * 100
        for _ in range(10):
            items = (("again", 1, items),) * 100
        with self.assertRaises(NoProgram):
            program(7, 1, items)

    def test_agains_too_deep(self):
        for n in (0, 1, MOST):
            items = ()
            for deep in range(1, 11):
                items = (again(n, *items),)
                if deep > 3:
                    self.refused(NoProgram, 7, 1, items)
                    self.refused(NoProgram, 7, 1, as_lists(items))
                    self.refused(NoProgram, 7, 1, (SET, again(1), *items))
        self.refused(NoProgram, 7, 1, [again(1, again(1, SET, again(1, SET, again(1, SET))))])

    def test_an_n_beyond_its_bounds(self):
        for n in (-1, -2, -MOST, MOST + 1, MOST + 2, 10**31, SIXTY, -SIXTY):
            self.refused_everywhere(1, again(n))
            self.refused_everywhere(1, again(n, SET))
            self.refused_everywhere(1, again(1, again(n, SET)))
            self.refused_everywhere(1, again(n, again(1)))

    def test_an_x_that_is_no_box(self):
        for many in (1, 2, 3):
            for x in (-1, -many, many, many + 1, 4, SIXTY, -SIXTY):
                self.refused_everywhere(many, ("set", x, (1,) * (many + 1)))
                self.refused_everywhere(many, again(2, again(0, ("set", x, (1,) * (many + 1)))))

    def test_a_form_of_another_width(self):
        for many in (1, 2, 3):
            for width in (0, 1, 2, 3, 4, 5, 6):
                if width != many + 1:
                    self.refused_everywhere(many, ("set", 0, (1,) * width))
                    self.refused_everywhere(many, again(2, again(0, ("set", many - 1, (0,) * width))))

    def test_right_ones_around_do_not_help(self):
        right = ("set", 1, (1, 2, 3))
        for wrong in (("set", 2, (1, 2, 3)), ("set", 1, (1, 2)), ("set", 1, (1, 2, 3, 4)), again(-1), again(MOST + 1)):
            for place in range(4):
                items = [right] * 3
                items.insert(place, wrong)
                self.refused(NoProgram, 7, 2, items)
                self.refused(NoProgram, 7, 2, [again(0, again(0, right, again(0, *items)))])
        self.becomes(7, 2, [right] * 3, (right,) * 3)


class DeedsTest(unittest.TestCase):
    def told(self, number, *items):
        self.assertEqual(deeds_in(items), number)
        self.assertIs(type(deeds_in(items)), int)

    def test_sets(self):
        self.told(0)
        self.told(1, SET)
        self.told(3, SET, SET, SET)
        self.told(30, *(SET,) * 30)

    def test_agains(self):
        self.told(0, again(0, SET, SET))
        self.told(2, again(1, SET, SET))
        self.told(10, again(5, SET, SET))
        self.told(MOST, again(MOST, SET))
        self.told(3 * MOST, again(MOST, SET, SET, SET))

    def test_agains_and_sets(self):
        self.told(6, SET, again(2, SET, SET), SET)
        self.told(MOST + 2, SET, again(MOST, SET), SET, again(0, SET))

    def test_agains_within_agains(self):
        self.told(24, again(2, again(3, again(4, SET))))
        self.told(40, again(2, SET, again(3, SET, again(4, SET), SET), SET))
        self.told(MOST**3, again(MOST, again(MOST, again(MOST, SET))))
        self.told(MOST**2 * 27 + MOST, again(MOST, again(MOST, *(SET,) * 27), SET))

    def test_agains_that_do_no_deed(self):
        self.told(0, again(MOST))
        self.told(0, again(MOST, again(MOST, again(MOST))))
        self.told(0, again(MOST, again(0, SET)))
        self.told(0, again(0, again(MOST, SET)))
        self.told(1, again(MOST), SET, again(MOST, again(0, SET)))
        self.told(MOST, again(MOST, again(0, SET), SET, again(MOST)))

    def test_as_many_as_are_walked(self):
        def walked(items):
            total = 0
            for kind, n, rest in items:
                total += 1 if kind == "set" else sum(walked(rest) for _ in range(n))
            return total

        spread = Spread(22)
        for _ in range(60):
            items = spread.items(7, 2, 1 + spread.number(30), 3, (0, 1, 2, 3, 5))
            self.told(walked(items), *items)
