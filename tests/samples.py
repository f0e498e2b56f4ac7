"""Tables, forms and stands for the tests: spread over the wheel, and the same in each run."""

import itertools

PRIMES = (3, 5, 7, 101, 9973)


class Spread:
    def __init__(self, seed):
        self.state = seed

    def number(self, below):
        self.state = (self.state * 6364136223846793005 + 1442695040888963407) % 2**64
        return (self.state >> 33) % below

    def stand(self, P, many):
        return tuple(self.number(P) for _ in range(many))

    def form(self, P, many):
        return tuple(self.number(P) for _ in range(many + 1))

    def table(self, P, many):
        return tuple(self.form(P, many) for _ in range(many))


def all_stands(P, many):
    return list(itertools.product(range(P), repeat=many))
