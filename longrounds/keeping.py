"""The forms that no round of a program changes."""

from longrounds.making import table_of
from longrounds.numbers import on
from longrounds.solving import idle_sums
from longrounds.tables import form_ahead
from longrounds.tables import one_at


def change(P, table, form):
    # By what the form is worth more behind the table than ahead of it, as a form ahead of it.
    return tuple([on(P, n - m) for n, m in zip(form_ahead(P, table, form), form)])


def kept(P, many, items):
    # A form is the sum, by its own numbers, of the forms that have one 1, and its change is
    # that sum of theirs: so it is kept just where its numbers are an idle sum of these changes.
    table = table_of(P, many, items)
    return idle_sums(P, [change(P, table, one_at(many + 1, place)) for place in range(many + 1)])
