from longrounds.backs import loss, undone
from longrounds.desk import ask, compare, leads, undo
from longrounds.errors import Lossy, NoText, TooLong
from longrounds.making import after, table_of
from longrounds.reaching import reach
from longrounds.rings import ring
from longrounds.tables import idle
from longrounds.texts import read, show
from samples import COUNTS, MOST, PRIMES, RefusalTest, all_stands, cases, done_by_hand, with_own, without_loss

NAMES = ("a", "do", "abcdefgh")
ONE = "prime 7\nboxes a\ndo set a 1 1"
TWO = "prime 7\nboxes a b\ndo set a 1 0 1 again 3 [ set b 1 1 0 ]"
LOSSY = "prime 7\nboxes a\ndo set a 0 4"
# From 1 0 0 a ring of 10001 rounds.
LONG = "prime 7673\nboxes a b c\ndo again 6452888 [ set a 1 0 1 0 set b 1 1 0 0 set c 0 1 6 0 ]"
WRONG = (
    "", " ", "\n\n", ONE + " ", ONE + "\n", " " + ONE, ONE.replace("7", "07"), ONE.replace("7", "9"),
    ONE.replace("7", "2"), ONE.replace("set", "Set"), ONE.replace("a 1 1", "b 1 1"), ONE + " 1", ONE + " ]",
    ONE.replace("1 1", "7 1"), ONE.replace("1 1", "-1 1"), ONE.replace("boxes a", "boxes a a"),
    ONE.replace("boxes a", "boxes set"), "prime 7\nboxes a", "prime 7\nboxes a\n", ONE + "\n" + ONE,
    "prime 7\nboxes a\ndo again 1000000000000000000000000000001 [ ]", "prime 7\nboxes a\ndo" + " set a 1 1" * 31,
    "prime 7\nboxes a\ndo again 1 [ again 1 [ again 1 [ again 1 [ ] ] ] ]", "prime 7\nboxes a b c d\ndo",
    "again 1 [ " * 400, "7" * 4000,
)


def numbers(stand):
    return " ".join(str(n) for n in stand)


def wrong_stands(P, many):
    right = [0] * many
    for stand in (right[1:], right + [0], right + [0] * 10):
        yield stand
    for x in range(many):
        for n in (P, P + 1, 2 * P, -1, -P, 10**59, -(10**59)):
            yield right[:x] + [n] + right[x + 1:]


class DeskTest(RefusalTest):
    def answers(self, answer, asked, *handed):
        told = asked(*handed)
        self.assertIs(type(told), str)
        self.assertEqual(told, answer)
        self.assertEqual(asked(*handed), answer)

    def no_stand(self, P, many, asked):
        """Refused for each stand that is none of the program's, as a list and as a tuple."""
        for stand in wrong_stands(P, many):
            self.refused(NoText, asked, stand)
            self.refused(NoText, asked, tuple(stand))


class LeadsTest(DeskTest):
    def test_by_hand(self):
        for n, told in ((0, "3"), (1, "4"), (3, "6"), (4, "0"), (700, "3"), (MOST, str((3 + MOST) % 7))):
            self.answers(told, leads, ONE, n, (3,))
            self.answers(told, leads, ONE, n, [3])
        self.answers("0 0", leads, TWO, 0, (0, 0))
        self.answers("1 3", leads, TWO, 1, [0, 0])
        self.answers("2 2", leads, TWO, 2, (0, 0))
        self.answers("6 5 4", leads, "prime 7\nboxes x y z\ndo", MOST, [6, 5, 4])
        self.answers("4", leads, LOSSY, MOST, (0,))
        self.answers("9972", leads, "prime 9973\nboxes a\ndo set a 1 9972", 1, (0,))

    def test_great_agains_and_great_counts(self):
        for spread, P, many in cases(140):
            for size in (0, 3, 12):
                items, stand = spread.items(P, many, size, 3, COUNTS), spread.stand(P, many)
                text = show(P, NAMES[:many], items)
                for n in COUNTS[::3] + (MOST,):
                    self.answers(numbers(after(P, many, items, n, stand)), leads, text, n, list(stand))

    def test_as_done_by_hand(self):
        for spread, P, many in cases(141):
            items, stand = spread.items(P, many, 6, 2, (0, 1, 2, 3)), spread.stand(P, many)
            text, end = show(P, NAMES[:many], items), stand
            for n in range(5):
                self.answers(numbers(end), leads, text, n, stand)
                end = done_by_hand(P, items, end)

    def test_what_is_handed_in_stays(self):
        stand = [3, 4]
        leads(TWO, 5, stand)
        self.assertEqual(stand, [3, 4])
        told = leads(TWO, 5, stand)
        stand[0] = 0
        self.assertEqual(leads(TWO, 5, [3, 4]), told)

    def test_wrong_texts(self):
        for text in WRONG:
            for n in (0, 1, MOST):
                self.refused(NoText, leads, text, n, (3,))
                self.refused(NoText, leads, text, n, [])

    def test_wrong_stands(self):
        for P in PRIMES:
            for many in (1, 2, 3):
                text = show(P, NAMES[:many], ())
                for n in (0, MOST):
                    self.no_stand(P, many, lambda stand: leads(text, n, stand))


class UndoTest(DeskTest):
    def test_by_hand(self):
        self.answers("prime 7\nboxes a\ndo set a 1 6", undo, ONE)
        self.answers("prime 7\nboxes a\ndo", undo, "prime 7\nboxes a\ndo")
        self.answers("prime 7\nboxes a b\ndo again 3 [ set b 6 1 0 ] set a 1 0 6", undo, TWO)
        self.answers("prime 7\nboxes do\ndo again 0 [ ]", undo, "prime 7\nboxes do\ndo again 0 [ set do 0 4 ]")
        self.answers("prime 7\nboxes x\ndo again 5 [ ] set x 4 0", undo, "prime 7\nboxes x\ndo set x 2 0 again 5 [ ]")

    def test_programs_of_all_kinds(self):
        for spread, P, many in cases(142):
            for size in (1, 4, 30):
                items = without_loss(spread.items(P, many, size, 3, COUNTS))
                told = undo(show(P, NAMES[:many], items))
                self.assertIs(type(told), str)
                other = read(told)
                self.assertEqual(other[:2], (P, NAMES[:many]))
                self.assertEqual(other[2], undone(P, many, items))
                self.assertEqual(table_of(P, many, items + other[2]), idle(many))
                self.assertEqual(table_of(P, many, other[2] + items), idle(many))

    def test_lossy(self):
        self.refused(Lossy, undo, LOSSY)
        self.refused(Lossy, undo, "prime 7\nboxes a b\ndo again 3 [ set a 0 1 0 ]")
        seen = 0
        for spread, P, many in cases(143):
            items = with_own(spread.items(P, many, 6, 3, COUNTS), lambda own: 0 if spread.number(3) == 0 else own)
            if loss(P, many, items) is not None:
                self.refused(Lossy, undo, show(P, NAMES[:many], items))
                seen += 1
        self.assertGreater(seen, 5)

    def test_wrong_texts(self):
        for text in WRONG + (LOSSY + " ", LOSSY.replace("0 4", "0 7"), LOSSY + "\n" + LOSSY):
            self.refused(NoText, undo, text)


class CompareTest(DeskTest):
    def test_by_hand(self):
        self.answers("alike", compare, ONE, ONE)
        self.answers("alike", compare, TWO, TWO)
        self.answers("alike", compare, ONE, "prime 7\nboxes a\ndo again 1000000000000000000000000000000 [ set a 1 1 ]")
        self.answers("parted 0", compare, ONE, "prime 7\nboxes a\ndo")
        self.answers("parted 1", compare, "prime 7\nboxes a\ndo", "prime 7\nboxes a\ndo set a 2 0")
        self.answers("parted 0 0", compare, TWO, "prime 7\nboxes a b\ndo")
        self.answers("parted 0 1", compare, "prime 7\nboxes a b\ndo", "prime 7\nboxes a b\ndo set a 1 3 0")
        self.answers("parted 1 0", compare, "prime 7\nboxes a b\ndo", "prime 7\nboxes a b\ndo set b 3 1 0")
        self.answers("parted 0 0 1", compare, "prime 7\nboxes a b c\ndo", "prime 7\nboxes a b c\ndo set b 0 1 3 0")

    def test_names_do_not_matter(self):
        self.answers("alike", compare, ONE, "prime 7\nboxes z\ndo set z 1 1")
        self.answers("alike", compare, TWO, TWO.replace("a b", "b a").replace("set a", "set c").replace(
            "set b", "set a").replace("set c", "set b"))
        self.answers("parted 1 0", compare, "prime 7\nboxes a b\ndo set a 2 0 0", "prime 7\nboxes b a\ndo set a 1 2 0")
        self.answers("parted 1 0", compare, "prime 7\nboxes a b\ndo set a 2 0 0", "prime 7\nboxes b a\ndo set a 0 2 0")
        for spread, P, many in cases(144):
            items = spread.items(P, many, 8, 3, COUNTS)
            self.answers("alike", compare, show(P, NAMES[:many], items), show(P, ("x", "y", "z")[:many], items))

    def test_as_walked_from_every_start(self):
        seen = {"alike": 0, "parted": 0}
        for spread, P, many in cases(145):
            if P**many > 130:
                continue
            for _ in range(20):
                one = spread.items(P, many, 1 + spread.number(3), 2, (0, 1, 2, 3))
                other = with_own(one, lambda own: (own + spread.number(4) // 3) % P)
                ends = {at: (done_by_hand(P, one, at), done_by_hand(P, other, at)) for at in all_stands(P, many)}
                zero = (0,) * many
                starts = [zero] + [zero[:x] + (1,) + zero[x + 1:] for x in range(many)]
                parted = [start for start in starts if ends[start][0] != ends[start][1]]
                alike = all(end == other_end for end, other_end in ends.values())
                answer = "alike" if alike else "parted " + numbers(parted[0])
                self.answers(answer, compare, show(P, NAMES[:many], one), show(P, NAMES[:many], other))
                seen[answer.split()[0]] += 1
        self.assertGreater(min(seen.values()), 20)

    def test_wrong_texts(self):
        for text in WRONG:
            self.refused(NoText, compare, text, ONE)
            self.refused(NoText, compare, ONE, text)
            self.refused(NoText, compare, text, text)
            self.refused(NoText, compare, text, TWO)

    def test_another_prime_or_another_number_of_boxes(self):
        for P in PRIMES:
            for many in (1, 2, 3):
                for other in PRIMES:
                    for more in (1, 2, 3):
                        texts = (show(P, NAMES[:many], ()), show(other, NAMES[:more], ()))
                        if (P, many) == (other, more):
                            self.answers("alike", compare, *texts)
                        else:
                            self.refused(NoText, compare, *texts)


class AskTest(DeskTest):
    def test_by_hand(self):
        for n in range(7):
            self.answers(f"after {n}", ask, ONE, (3,), [(3 + n) % 7])
        self.answers("after 9972", ask, "prime 9973\nboxes a\ndo set a 1 1", [1], [0])
        self.answers("never", ask, "prime 7\nboxes a\ndo", (3,), (4,))
        self.answers("after 0", ask, "prime 7\nboxes a\ndo", [3], (3,))
        self.answers("never", ask, LOSSY, (3,), [0])
        self.answers("after 1", ask, LOSSY, [3], [4])
        self.answers("never", ask, "prime 7\nboxes a b\ndo set a 1 0 1", (0, 0), (0, 1))

    def test_as_reach_tells(self):
        seen = {"after": 0, "never": 0, "refused": 0}
        for spread, P, many in cases(146):
            for _ in range(8):
                items, stand = spread.items(P, many, 4, 3, COUNTS), spread.stand(P, many)
                goals = (spread.stand(P, many), after(P, many, items, MOST, stand), stand)
                text, goal = show(P, NAMES[:many], items), goals[spread.number(3)]
                if ring(P, many, items, stand)[1] > 10000:
                    self.refused(TooLong, ask, text, stand, goal)
                    seen["refused"] += 1
                    continue
                told = reach(P, many, items, stand, goal)
                answer = f"after {told[1]}" if told[0] == "after" else "never"
                self.answers(answer, ask, text, list(stand), goal)
                self.answers(answer, ask, text, stand, list(goal))
                seen[answer.split()[0]] += 1
        self.assertGreater(min(seen.values()), 5)

    def test_too_long(self):
        for goal in ((1, 0, 0), (0, 0, 0), (0, 0, 1), [7672, 7672, 7672]):
            self.refused(TooLong, ask, LONG, (1, 0, 0), goal)
            self.refused(TooLong, ask, LONG, [1, 0, 0], goal)
        self.answers("never", ask, LONG, (0, 0, 0), (1, 0, 0))

    def test_what_is_wrong_goes_first(self):
        right = (1, 0, 0)
        for text in (LONG + " ", LONG.replace("set a", "set d"), LONG.replace("7673", "7671"), LONG + "\n"):
            self.refused(NoText, ask, text, right, right)
        self.no_stand(7673, 3, lambda stand: ask(LONG, stand, right))
        self.no_stand(7673, 3, lambda goal: ask(LONG, right, goal))

    def test_wrong_texts(self):
        for text in WRONG:
            self.refused(NoText, ask, text, (3,), (3,))
            self.refused(NoText, ask, text, [], (7,))

    def test_wrong_stands_and_goals(self):
        for P in PRIMES:
            for many in (1, 2, 3):
                text, right = show(P, NAMES[:many], ()), (0,) * many
                self.no_stand(P, many, lambda stand: ask(text, stand, right))
                self.no_stand(P, many, lambda goal: ask(text, right, goal))
                self.no_stand(P, many, lambda stand: ask(text, stand, stand))

    def test_what_is_handed_in_stays(self):
        stand, goal = [3, 4], [4, 1]
        ask(TWO, stand, goal)
        self.assertEqual((stand, goal), ([3, 4], [4, 1]))
        told = ask(TWO, stand, goal)
        stand[0] = goal[1] = 0
        self.assertEqual(ask(TWO, [3, 4], [4, 1]), told)
