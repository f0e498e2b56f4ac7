"""Tables, forms and stands for the tests: spread over the wheel, and the same in each run."""

import copy
import itertools
import unittest

from longrounds.errors import LongError, Lossy, NoNumber, NoPrime, NoProgram, NoText, TooLong

REFUSALS = (NoPrime, NoNumber, NoProgram, TooLong, Lossy, NoText)
PRIMES = (3, 5, 7, 101, 9973)
MOST = 10**30
COUNTS = (0, 1, 2, 3, 4, 5, 7, 8, 1000, 2**40 - 1, 2**40, 12345678901234567890, MOST - 1, MOST)
ADD = ("set", 0, (1, 1))
DOUBLE = ("set", 0, (2, 0))
GROW = (("set", 0, (1, 1, 0)), ("set", 1, (1, 1, 0)))
# Each box takes on the number of the next one, and the last one 5.
PASS_ON = (("set", 0, (0, 1, 0, 0)), ("set", 1, (0, 0, 1, 0)), ("set", 2, (0, 0, 0, 5)))


def again(n, *items):
    return ("again", n, items)


class Spread:
    def __init__(self, seed):
        self.state = seed

    def number(self, below):
        self.state = (self.state * 6364136223846793005 + 1442695040888963407) % 2**64
        return (self.state >> 33) % below

    def stand(self, P, many):
        return tuple(self.number(P) for _ in range(many))

    def form(self, P, many):
        return tuple(self.number(P) for _ in range(many + 1))

    def table(self, P, many):
        return tuple(self.form(P, many) for _ in range(many))

    def items(self, P, many, size, deep, counts):
        """A program of as many items as size tells, with agains at most so deep, n out of counts."""
        told = []
        while size > 0:
            if deep and self.number(3) == 0:
                inner = self.number(size)
                told.append(("again", counts[self.number(len(counts))], self.items(P, many, inner, deep - 1, counts)))
                size -= inner
            else:
                told.append(("set", self.number(many), self.form(P, many)))
            size -= 1
        return tuple(told)


def with_own(items, choice):
    """The program in which each set has, as the multiple of its own box, what the choice gives for the one it had."""
    told = []
    for kind, number, rest in items:
        if kind == "again":
            told.append((kind, number, with_own(rest, choice)))
        else:
            told.append((kind, number, rest[:number] + (choice(rest[number]),) + rest[number + 1:]))
    return tuple(told)


def without_loss(items):
    return with_own(items, lambda own: own or 1)


def cases(seed):
    """A spread, and each of the wheels with each number of boxes."""
    spread = Spread(seed)
    for P in PRIMES:
        for many in (1, 2, 3):
            yield spread, P, many


def done_by_hand(P, items, stand):
    """Walks each round, so only for programs whose agains are short."""
    boxes = list(stand)
    for kind, number, rest in items:
        if kind == "set":
            boxes[number] = worth_by_hand(P, rest, boxes)
        else:
            for _ in range(number):
                boxes = list(done_by_hand(P, rest, boxes))
    return tuple(boxes)


def walked_by_hand(step, stand):
    """All stands that are come to, each with its least count of rounds, and the counts of the tail and the ring."""
    counts = {}
    while stand not in counts:
        counts[stand] = len(counts)
        stand = step(stand)
    return counts, counts[stand], len(counts) - counts[stand]


def all_stands(P, many):
    return list(itertools.product(range(P), repeat=many))


def sample_stands(spread, P, many):
    """All stands where they are few, else some, the least and the greatest among them."""
    if P**many <= 125:
        return all_stands(P, many)
    ends = [(0,) * many, (P - 1,) * many]
    return ends + [spread.stand(P, many) for _ in range(20)]


def worth_by_hand(P, form, stand):
    return (sum(c * n for c, n in zip(form, stand)) + form[-1]) % P


def total(P, rows, weights):
    """The sum of the rows by these weights; there is one row at least."""
    return tuple(sum(w * row[k] for w, row in zip(weights, rows)) % P for k in range(len(rows[0])))


def all_sums(P, rows, width):
    if not rows:
        return {(0,) * width}
    return {total(P, rows, weights) for weights in all_stands(P, len(rows))}


class RefusalTest(unittest.TestCase):
    def refused(self, refusal, asked, *handed):
        ahead = copy.deepcopy(handed)
        with self.assertRaises(refusal) as taken:
            asked(*handed)
        self.assertIs(type(taken.exception), refusal)
        self.assertIsInstance(taken.exception, LongError)
        self.assertIsInstance(taken.exception, ValueError)
        self.assertNotIsInstance(taken.exception, tuple(other for other in REFUSALS if other is not refusal))
        self.assertEqual(handed, ahead)


class WheelTest(RefusalTest):
    """Holds what is told against its kind: tuples of one width, with numbers on the wheel."""

    def is_row(self, P, width, row):
        self.assertIs(type(row), tuple)
        self.assertEqual(len(row), width)
        for number in row:
            self.assertIs(type(number), int)
            self.assertIn(number, range(P))

    def is_table(self, P, many, table):
        self.assertIs(type(table), tuple)
        self.assertEqual(len(table), many)
        for form in table:
            self.is_row(P, many + 1, form)

    def in_steps_form(self, P, width, rows):
        self.assertIs(type(rows), list)
        last = -1
        for row in rows:
            self.is_row(P, width, row)
            lead = [place for place in range(width) if row[place]][0]
            self.assertGreater(lead, last)
            self.assertEqual([other[lead] for other in rows], [int(other is row) for other in rows])
            last = lead
