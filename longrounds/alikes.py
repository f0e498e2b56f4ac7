"""Whether two programs lead from every start to the same stand as one another."""

from longrounds.making import table_of
from longrounds.tables import one_at
from longrounds.tables import turned


def starts(many):
    # A form's worth at the first one is its number alone, and at each other one this and
    # a multiple: so where two tables turn all of them alike, they are one table.
    return [tuple([0] * many)] + [one_at(many, x) for x in range(many)]


def parting(P, many, one, other):
    table = table_of(P, many, one)
    other_table = table_of(P, many, other)
    for start in starts(many):
        end = turned(P, table, start)
        other_end = turned(P, other_table, start)
        if end != other_end:
            return (start, end, other_end)
    return None
