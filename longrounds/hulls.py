"""The hull of a stand: stands of which the stand after any count of rounds is a sum."""

from longrounds.making import table_of
from longrounds.solving import solved
from longrounds.tables import turned


def with_one(stand):
    # By the 1 behind each stand, weights that lead to a goal with such a 1 come to 1
    # themselves, and a row that shuts it off is a form, its number alone times that 1.
    return tuple(stand) + (1,)


def towards(P, stands, goal):
    return solved(P, [with_one(stand) for stand in stands], with_one(goal))


def hull(P, many, items, stand):
    table = table_of(P, many, items)
    stands = [stand]
    coming = turned(P, table, stand)
    told = towards(P, stands, coming)
    while told[0] == "shut":
        stands.append(coming)
        coming = turned(P, table, coming)
        told = towards(P, stands, coming)
    return (stands, told[1])


def placed(P, many, items, stand, goal):
    stands = hull(P, many, items, stand)[0]
    return towards(P, stands, goal)
