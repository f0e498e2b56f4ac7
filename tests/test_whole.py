"""Points 1 to 3 of the document, over the whole program."""

import copy
import importlib
import inspect
import unittest

from longrounds.alikes import parting, starts
from longrounds.backs import loss, missed, undone
from longrounds.desk import ask, compare, leads, undo
from longrounds.errors import Lossy
from longrounds.hulls import hull, placed
from longrounds.keeping import kept
from longrounds.making import after, table_of
from longrounds.reaching import reach
from longrounds.rings import ring
from longrounds.tables import turned
from longrounds.texts import read, show
from samples import (
    COUNTS, MOST, again, all_stands, all_sums, cases, walked_by_hand, with_own, without_loss, worth_by_hand,
)

INTERFACE = {
    "numbers": ("is_whole(thing)", "prime(thing)", "on(P, n)", "back(P, n)"),
    "tables": (
        "worth(P, form, stand)", "turned(P, table, stand)", "idle(many)", "then(P, one, other)",
        "setting(many, x, form)",
    ),
    "programs": ("program(P, many, items)", "deeds_in(items)"),
    "doing": ("done(P, items, stand, most)",),
    "making": (
        "ladder(P, table, n)", "rounds(P, table, n)", "table_of(P, many, items)", "after(P, many, items, n, stand)",
    ),
    "solving": ("steps_form(P, rows)", "idle_sums(P, rows)", "solved(P, rows, goal)"),
    "alikes": ("starts(many)", "parting(P, many, one, other)"),
    "backs": ("undone(P, many, items)", "loss(P, many, items)", "missed(P, many, items)"),
    "keeping": ("kept(P, many, items)",),
    "hulls": ("hull(P, many, items, stand)", "placed(P, many, items, stand, goal)"),
    "rings": ("primes_of(n)", "ring(P, many, items, stand)"),
    "reaching": ("reach(P, many, items, stand, goal)",),
    "texts": ("show(P, names, items)", "read(text)"),
    "desk": ("leads(text, n, stand)", "undo(text)", "compare(text, other)", "ask(text, stand, goal)"),
}
ITEMS = (("set", 0, (3, 1, 2)), again(MOST, ("set", 1, (1, 1, 4)), again(5, ("set", 0, (1, 2, 0)))))
FEW = (("set", 0, (1, 2, 3)), again(3, ("set", 1, (0, 1, 1))))
WIPE = (("set", 0, (1, 2, 3)), ("set", 1, (1, 0, 4)))
TABLE = ((1, 2, 3), (4, 5, 6))
ROWS = [(1, 2, 3), (2, 4, 6), (0, 1, 1)]
TEXT = "prime 7\nboxes a b\ndo set a 3 1 2 again 7 [ set b 1 1 4 ]"
# What is handed to each function of the interface, so that each kind of answer is there.
ASKED = {
    "is_whole": ((7,), ([7],)), "prime": ((7,),), "on": ((7, -1),), "back": ((7, 3),),
    "worth": ((7, (2, 3, 1), (4, 5)),), "turned": ((7, TABLE, (4, 5)),), "idle": ((1,), (3,)),
    "then": ((7, TABLE, TABLE),), "setting": ((2, 1, (2, 3, 1)),),
    "program": ((7, 2, [("set", 0, (8, -1, 2)), ("again", 3, [("set", 1, (1, 1, 1)), ("again", 0, [])])]), (7, 1, [])),
    "deeds_in": ((ITEMS,),), "done": ((7, FEW, (4, 5), 10000),),
    "ladder": ((7, TABLE, 0), (7, TABLE, 1), (7, TABLE, MOST)), "rounds": ((7, TABLE, 0), (7, TABLE, MOST)),
    "table_of": ((7, 2, ITEMS),), "after": ((7, 2, ITEMS, MOST, (4, 5)),),
    "steps_form": ((7, ROWS), (7, [(0, 0)])), "idle_sums": ((7, ROWS), (7, [(1, 0), (0, 1)])),
    "solved": ((7, ROWS, (1, 3, 4)), (7, ROWS, (1, 0, 0))),
    "starts": ((1,), (2,), (3,)), "parting": ((7, 2, ITEMS, ITEMS), (7, 2, ITEMS, FEW)),
    "undone": ((7, 2, ITEMS),), "loss": ((7, 2, ITEMS), (7, 2, WIPE)), "missed": ((7, 2, ITEMS), (7, 2, WIPE)),
    "kept": ((7, 2, ITEMS), (7, 2, ())), "hull": ((7, 2, ITEMS, (4, 5)), (7, 2, (), (4, 5))),
    "placed": ((7, 2, ITEMS, (4, 5), (4, 5)), (7, 2, (), (4, 5), (4, 6))),
    "primes_of": ((1,), (7,), (360,)), "ring": ((7, 2, ITEMS, (4, 5)), (7, 2, (), (4, 5))),
    "reach": (
        (7, 2, FEW, (4, 5), (4, 5)), (7, 2, (), (4, 5), (4, 6)), (7, 2, WIPE, (4, 5), (6, 6)),
        (7, 2, FEW[:1], (4, 0), (4, 1)),
    ),
    "show": ((7, ["a", "b"], ITEMS), (7, ("a", "b"), ())), "read": ((TEXT,), ("prime 7\nboxes a\ndo",)),
    "leads": ((TEXT, MOST, [4, 5]), (TEXT, 0, (4, 5))), "undo": ((TEXT,),),
    "compare": ((TEXT, TEXT), (TEXT, "prime 7\nboxes a b\ndo")),
    "ask": ((TEXT, [4, 5], [4, 5]), ("prime 7\nboxes a\ndo", [4], [5])),
}


def functions():
    for name, told in INTERFACE.items():
        module = importlib.import_module(f"longrounds.{name}")
        for row in told:
            yield row, getattr(module, row.partition("(")[0])


def lists_in(thing):
    """All lists that lie in a thing, itself among them."""
    if not isinstance(thing, (list, tuple)):
        return []
    return [thing] * isinstance(thing, list) + [each for part in thing for each in lists_in(part)]


def done_far(P, items, stand):
    """Doing a program deed by deed, but for those rounds of an again that only walk a ring over and over."""
    for kind, number, rest in items:
        if kind == "set":
            stand = stand[:number] + (worth_by_hand(P, rest, stand),) + stand[number + 1:]
        else:
            counts, t, r = walked_by_hand(lambda each: done_far(P, rest, each), stand)
            n = number if number < t else t + (number - t) % r
            stand = list(counts)[n]
    return stand


def small_programs(seed):
    for spread, P, many in cases(seed):
        if P**many <= 49:
            for _ in range(8):
                items = spread.items(P, many, 1 + spread.number(6), 3, COUNTS)
                yield spread, P, many, items, {stand: done_far(P, items, stand) for stand in all_stands(P, many)}


class InterfaceTest(unittest.TestCase):
    def test_names_and_arguments(self):
        for row, asked in functions():
            self.assertEqual(f"{asked.__name__}{inspect.signature(asked)}", row)

    def test_each_function_is_asked_here(self):
        self.assertEqual(sorted(ASKED), sorted(row.partition("(")[0] for row, _ in functions()))


class OwnTest(unittest.TestCase):
    """Point 2."""

    def test_what_is_handed_in_stays(self):
        for _, asked in functions():
            for handed in ASKED[asked.__name__]:
                ahead = copy.deepcopy(handed)
                asked(*handed)
                self.assertEqual(handed, ahead, asked.__name__)

    def test_the_same_question_has_the_same_answer(self):
        told = [repr(asked(*handed)) for _, asked in functions() for handed in ASKED[asked.__name__]]
        for _ in range(2):
            others = [repr(asked(*handed)) for _, asked in functions() for handed in ASKED[asked.__name__]]
            self.assertEqual(others, told)

    def test_each_list_is_a_new_one(self):
        for _, asked in functions():
            for handed in ASKED[asked.__name__]:
                one, other = asked(*handed), asked(*handed)
                lists = lists_in(handed) + lists_in(one) + lists_in(other)
                self.assertEqual(len({id(each) for each in lists}), len(lists), asked.__name__)

    def test_no_list_is_kept(self):
        for _, asked in functions():
            for handed in ASKED[asked.__name__]:
                mine = copy.deepcopy(handed)
                told = asked(*mine)
                shown = repr(told)
                for each in lists_in(mine):
                    each.clear()
                self.assertEqual(repr(told), shown, asked.__name__)
                for each in lists_in(told):
                    each.append("mine")
                    each.reverse()
                self.assertEqual(repr(asked(*handed)), shown, asked.__name__)


class PromiseTest(unittest.TestCase):
    """Point 3: what is told of great repeats is what doing them leads to."""

    def test_where_every_start_ends(self):
        for spread, P, many, items, ends in small_programs(150):
            table, text = table_of(P, many, items), show(P, ("a", "b", "c")[:many], items)
            self.assertEqual(read(text)[2], items)
            for n in (0, 1, 2, MOST - 1, MOST):
                for stand in list(ends)[:9]:
                    end = done_far(P, (again(n, *items),), stand)
                    self.assertEqual(after(P, many, items, n, stand), end)
                    self.assertEqual(leads(text, n, stand), " ".join(str(number) for number in end))
            for stand, end in ends.items():
                self.assertEqual(turned(P, table, stand), end)

    def test_whether_two_programs_end_alike(self):
        seen = {True: 0, False: 0}
        for spread, P, many, items, ends in small_programs(151):
            other = with_own(items, lambda own: (own + spread.number(4) // 3) % P)
            alike = all(done_far(P, other, stand) == end for stand, end in ends.items())
            told = parting(P, many, items, other)
            self.assertEqual(told is None, alike)
            if not alike:
                parted = [stand for stand in starts(many) if done_far(P, other, stand) != ends[stand]]
                self.assertEqual(told, (parted[0], ends[parted[0]], done_far(P, other, parted[0])))
            names = ("a", "b", "c")[:many]
            answer = compare(show(P, names, items), show(P, names, other))
            self.assertEqual(answer == "alike", alike)
            seen[alike] += 1
        self.assertGreater(min(seen.values()), 5)

    def test_undone_or_lost(self):
        seen = {"undone": 0, "lost": 0}
        for spread, P, many, items, ends in small_programs(152):
            for each in (items, without_loss(items)):
                seen["undone" if self.can_be_undone(P, many, each) else "lost"] += 1
        self.assertGreater(min(seen.values()), 10)

    def can_be_undone(self, P, many, items):
        ends = {stand: done_far(P, items, stand) for stand in all_stands(P, many)}
        text = show(P, ("a", "b", "c")[:many], items)
        try:
            other = undone(P, many, items)
        except Lossy:
            place, one, two, end = loss(P, many, items)
            self.assertNotEqual(one, two)
            self.assertEqual((ends[one], ends[two]), (end, end))
            form, n, stand = missed(P, many, items)
            self.assertNotIn(stand, ends.values())
            self.assertEqual({worth_by_hand(P, form, each) for each in ends.values()}, {n})
            self.assertRaises(Lossy, undo, text)
            return False
        self.assertIsNone(loss(P, many, items))
        self.assertIsNone(missed(P, many, items))
        self.assertEqual(read(undo(text))[2], other)
        for stand, end in ends.items():
            self.assertEqual(done_far(P, other, end), stand)
            self.assertEqual(done_far(P, items, done_far(P, other, stand)), stand)
        return True

    def test_what_no_round_changes(self):
        for spread, P, many, items, ends in small_programs(153):
            sums = all_sums(P, kept(P, many, items), many + 1)
            for form in all_stands(P, many + 1):
                stays = all(worth_by_hand(P, form, stand) == worth_by_hand(P, form, end) for stand, end in ends.items())
                self.assertEqual(form in sums, stays)

    def test_whether_and_when_a_stand_is_come_to(self):
        seen = {"after": 0, "never": 0, "shut": 0}
        for spread, P, many, items, ends in small_programs(154):
            stand, text = spread.stand(P, many), show(P, ("a", "b", "c")[:many], items)
            counts, t, r = walked_by_hand(lambda each: ends[each], stand)
            self.assertEqual(ring(P, many, items, stand)[:2], (t, r))
            self.assertEqual(list(counts)[:len(hull(P, many, items, stand)[0])], hull(P, many, items, stand)[0])
            for goal in ends:
                told, answer = reach(P, many, items, stand, goal), ask(text, stand, goal)
                self.assertEqual(told[0] == "after", goal in counts)
                self.assertEqual(answer, f"after {counts[goal]}" if goal in counts else "never")
                seen[answer.split()[0]] += 1
                if placed(P, many, items, stand, goal)[0] == "shut":
                    self.assertEqual(answer, "never")
                    seen["shut"] += 1
        self.assertGreater(min(seen.values()), 100)
