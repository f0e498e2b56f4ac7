"""The program that undoes another one, or what is lost and missed where there is none."""

from longrounds.alikes import starts
from longrounds.errors import Lossy
from longrounds.making import table_of
from longrounds.numbers import back
from longrounds.solving import idle_sums
from longrounds.solving import times
from longrounds.tables import turned
from longrounds.tables import worth


def undone_form(P, x, form):
    # What x had is what it has now, less the rest of the form, times the back of its multiple.
    by = back(P, form[x])
    numbers = list(times(P, form, -by))
    numbers[x] = by
    return tuple(numbers)


def undone_set(P, x, form):
    if form[x] == 0:
        raise Lossy("a set that is done has 0 as the multiple of its own box")
    return ("set", x, undone_form(P, x, form))


def undone_again(P, many, n, items):
    # Items that are never done need not be such as can be undone.
    if n == 0:
        return ("again", 0, ())
    return ("again", n, undone(P, many, items))


def undone_item(P, many, item):
    if item[0] == "set":
        return undone_set(P, item[1], item[2])
    return undone_again(P, many, item[1], item[2])


def undone(P, many, items):
    return tuple([undone_item(P, many, item) for item in reversed(items)])


def lossy_within(item):
    # The empty place leads to the item itself.
    if item[0] == "set":
        return () if item[2][item[1]] == 0 else None
    return lossy_place(item[2]) if item[1] > 0 else None


def lossy_place(items):
    for number, item in enumerate(items):
        within = lossy_within(item)
        if within is not None:
            return (number,) + within
    return None


def item_at(items, place):
    item = items[place[0]]
    if len(place) == 1:
        return item
    return item_at(item[2], place[1:])


def items_ahead(items, place):
    # Ahead of a first doing no again around it has come to its second round, so what is
    # done there is, deep by deep, what stands ahead of the place.
    ahead = items[:place[0]]
    if len(place) == 1:
        return ahead
    return ahead + items_ahead(items[place[0]][2], place[1:])


def loss(P, many, items):
    place = lossy_place(items)
    if place is None:
        return None
    x = item_at(items, place)[1]
    # No lossy set is done ahead of the first one, so this way back is there.
    way_back = table_of(P, many, undone(P, many, items_ahead(items, place)))
    one = turned(P, way_back, starts(many)[0])
    other = turned(P, way_back, starts(many)[1 + x])
    return (place, one, other, turned(P, table_of(P, many, items), one))


def missed(P, many, items):
    table = table_of(P, many, items)
    sums = idle_sums(P, [form[:many] for form in table])
    if not sums:
        return None
    form = sums[0] + (0,)
    # The multiples of this form come to nothing behind the program, so any end will do.
    n = worth(P, form, turned(P, table, starts(many)[0]))
    others = [stand for stand in starts(many) if worth(P, form, stand) != n]
    return (form, n, others[0])
