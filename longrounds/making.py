"""Tables of programs: all rounds of an again become one table, however many they are."""

from longrounds.tables import idle
from longrounds.tables import setting
from longrounds.tables import then
from longrounds.tables import turned


def ladder(P, table, n):
    rungs = []
    rung = table
    for figure in range(n.bit_length()):
        rungs.append(rung)
        rung = then(P, rung, rung)
    return rungs


def rungs_for(rungs, n):
    # n is the sum of the counts of those rungs at which its figure in twos is 1.
    # All rungs are rounds of one table, so the order in which they come is free.
    return [rung for place, rung in enumerate(rungs) if (n >> place) % 2 == 1]


def rounds(P, table, n):
    whole = idle(len(table))
    for rung in rungs_for(ladder(P, table, n), n):
        whole = then(P, whole, rung)
    return whole


def table_of_item(P, many, item):
    if item[0] == "set":
        return setting(many, item[1], item[2])
    return rounds(P, table_of(P, many, item[2]), item[1])


def table_of(P, many, items):
    whole = idle(many)
    for item in items:
        whole = then(P, whole, table_of_item(P, many, item))
    return whole


def after(P, many, items, n, stand):
    return turned(P, rounds(P, table_of(P, many, items), n), stand)
