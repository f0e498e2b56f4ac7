"""Forms and tables over the stands of one to three boxes."""

from longrounds.numbers import on


def worth(P, form, stand):
    many = len(stand)
    return on(P, sum([form[x] * stand[x] for x in range(many)]) + form[many])


def turned(P, table, stand):
    return tuple([worth(P, form, stand) for form in table])


def one_at(width, place):
    return tuple([1 if other == place else 0 for other in range(width)])


def idle(many):
    return tuple([one_at(many + 1, x) for x in range(many)])


def column_sum(form, table, place):
    return sum([form[x] * table[x][place] for x in range(len(table))])


def form_ahead(P, table, form):
    # What a form is worth behind a table is the worth of this one ahead of it.
    many = len(table)
    numbers = [column_sum(form, table, place) for place in range(many + 1)]
    numbers[many] = numbers[many] + form[many]
    return tuple([on(P, n) for n in numbers])


def then(P, one, other):
    return tuple([form_ahead(P, one, form) for form in other])


def setting(many, x, form):
    forms = list(idle(many))
    forms[x] = tuple(form)
    return tuple(forms)
