"""Doing a program deed by deed."""

from longrounds.errors import TooLong
from longrounds.programs import deeds_in
from longrounds.tables import worth


def with_number(stand, x, number):
    return stand[:x] + (number,) + stand[x + 1:]


def again_done(P, n, items, stand):
    # Rounds of no deed change nothing, and there may be more of them than could be walked.
    if deeds_in(items) == 0:
        return stand
    for turn in range(n):
        stand = items_done(P, items, stand)
    return stand


def items_done(P, items, stand):
    for item in items:
        if item[0] == "set":
            stand = with_number(stand, item[1], worth(P, item[2], stand))
        else:
            stand = again_done(P, item[1], item[2], stand)
    return stand


def done(P, items, stand, most):
    if deeds_in(items) > most:
        raise TooLong("the program does more deeds than are let")
    return items_done(P, items, stand)
