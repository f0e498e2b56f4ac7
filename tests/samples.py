"""Tables, forms and stands for the tests: spread over the wheel, and the same in each run."""

import itertools

PRIMES = (3, 5, 7, 101, 9973)


class Spread:
    def __init__(self, seed):
        self.state = seed

    def number(self, below):
        self.state = (self.state * 6364136223846793005 + 1442695040888963407) % 2**64
        return (self.state >> 33) % below

    def stand(self, P, many):
        return tuple(self.number(P) for _ in range(many))

    def form(self, P, many):
        return tuple(self.number(P) for _ in range(many + 1))

    def table(self, P, many):
        return tuple(self.form(P, many) for _ in range(many))

    def items(self, P, many, size, deep, counts):
        """A program of as many items as size tells, with agains at most so deep, n out of counts."""
        told = []
        while size > 0:
            if deep and self.number(3) == 0:
                inner = self.number(size)
                told.append(("again", counts[self.number(len(counts))], self.items(P, many, inner, deep - 1, counts)))
                size -= inner
            else:
                told.append(("set", self.number(many), self.form(P, many)))
            size -= 1
        return tuple(told)


def done_by_hand(P, items, stand):
    """Walks each round, so only for programs whose agains are short."""
    boxes = list(stand)
    for kind, number, rest in items:
        if kind == "set":
            boxes[number] = (sum(c * n for c, n in zip(rest, boxes)) + rest[-1]) % P
        else:
            for _ in range(number):
                boxes = list(done_by_hand(P, rest, boxes))
    return tuple(boxes)


def all_stands(P, many):
    return list(itertools.product(range(P), repeat=many))
