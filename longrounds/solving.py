"""Rows of numbers on the wheel: their steps form, their idle sums, and whether a goal is a sum of them."""

from longrounds.numbers import back
from longrounds.numbers import on
from longrounds.tables import one_at


def times(P, row, number):
    return tuple([on(P, number * n) for n in row])


def lead_row(P, rows, place):
    for row in rows:
        if row[place] != 0:
            return times(P, row, back(P, row[place]))
    return None


def cleared(P, row, lead, place):
    return tuple([on(P, n - row[place] * m) for n, m in zip(row, lead)])


def steps_form(P, rows):
    # A number that only comes to 0 is no lead, so the rows come onto the wheel first.
    left = [times(P, row, 1) for row in rows]
    steps = []
    for place in range(len(rows[0])):
        lead = lead_row(P, left, place)
        if lead is not None:
            # The row that the lead was made of is cleared too, to nothing but 0: so it leads once.
            left = [cleared(P, row, lead, place) for row in left]
            steps = [cleared(P, row, lead, place) for row in steps]
            steps.append(lead)
    return steps


def idle_sums(P, rows):
    # Each row has, behind its own numbers, the weights by which it is a sum of the
    # rows. Where steps form leaves it nothing but 0 of its own, these come to nothing,
    # and such rows stand last and are in steps form by their weights alone.
    width = len(rows[0])
    marked = [tuple(row) + one_at(len(rows), place) for place, row in enumerate(rows)]
    return [row[width:] for row in steps_form(P, marked) if not any(row[:width])]


def weights_to(P, rows, goal):
    # The goal stands ahead of the rows, so if it is in any idle sum, then it is in the first one, once.
    sums = idle_sums(P, [goal] + list(rows))
    if not sums or sums[0][0] == 0:
        return None
    return times(P, sums[0][1:], -1)


def brought_together(P, row, other):
    return on(P, sum([n * m for n, m in zip(row, other)]))


def shutting_row(P, rows, goal):
    # The weights by which the columns come to nothing are just the rows that come to 0
    # with each row, and only a sum of the rows comes to 0 with all of these weights.
    columns = [tuple([row[place] for row in rows]) for place in range(len(goal))]
    for row in idle_sums(P, columns):
        number = brought_together(P, row, goal)
        if number != 0:
            return times(P, row, back(P, number))
    return None


def solved(P, rows, goal):
    weights = weights_to(P, rows, goal)
    if weights is not None:
        return ("sum", weights)
    return ("shut", shutting_row(P, rows, goal))
