"""Whether a goal is come to from a stand, and after the least count of rounds, or by what it never is."""

from longrounds.errors import TooLong
from longrounds.making import rounds
from longrounds.making import table_of
from longrounds.rings import ring_of_table
from longrounds.tables import turned

LONGEST_RING = 10000


def walked(P, table, stand, count):
    stands = []
    for turn in range(count):
        stands.append(stand)
        stand = turned(P, table, stand)
    return stands


def root_above(r):
    m = 0
    while m * m < r:
        m = m + 1
    return m


def far_stands(P, table, m, r, stand):
    leap = rounds(P, table, m)
    return walked(P, leap, turned(P, leap, stand), (r + m - 1) // m)


def on_or_apart(P, table, t, r, entry, goal):
    # If the goal comes k rounds after the entry, k from 1 to r, then the first leap from there
    # that is not short of it lands on one of the stands near after it. So where no leap lands
    # so, the goal is on another ring, and where one does, the first one that does tells k.
    m = root_above(r)
    near = walked(P, table, goal, m)
    far = far_stands(P, table, m, r, entry)
    for leap, stand in enumerate(far, start=1):
        if stand in near:
            return ("after", t + leap * m - near.index(stand))
    return ("apart", t, r, near, far)


def reach(P, many, items, stand, goal):
    table = table_of(P, many, items)
    told = ring_of_table(P, table, stand)
    t = told[0]
    r = told[1]
    if r > LONGEST_RING:
        raise TooLong("the ring of the stand is longer than 10000 rounds")
    ahead = walked(P, table, stand, t + 1)
    if goal in ahead:
        return ("after", ahead.index(goal))
    if turned(P, rounds(P, table, r), goal) != goal:
        return ("off", t, r)
    return on_or_apart(P, table, t, r, ahead[t], goal)
