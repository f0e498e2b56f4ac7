"""Programs: items are checked and brought onto the wheel, and the deeds that they do are counted."""

from longrounds.errors import NoProgram
from longrounds.numbers import is_from
from longrounds.numbers import on
from longrounds.numbers import prime

MOST_BOXES = 3
MOST_ITEMS = 30
MOST_DEEP = 3


def items_counted(items, ahead):
    # Refused at the first item too many: the same items may be handed in at many
    # places, so that walking all of them could take too long.
    count = ahead
    for item in items:
        count = count + 1
        if count > MOST_ITEMS:
            raise NoProgram("a program has at most thirty items, those within agains counted")
        if item[0] == "again":
            count = items_counted(item[2], count)
    return count


def made_set(P, many, x, form):
    if not is_from(x, 0, many - 1):
        raise NoProgram("a set is of a box, and these are numbered from 0")
    if len(form) != many + 1:
        raise NoProgram("a form has a number for each box and one more")
    return ("set", x, tuple([on(P, n) for n in form]))


def made_again(P, many, n, items, around):
    if around >= MOST_DEEP:
        raise NoProgram("agains stand at most three deep")
    if not is_from(n, 0, 10 ** 30):
        raise NoProgram("an again is done from 0 to 10 ** 30 times")
    return ("again", n, made_items(P, many, items, around + 1))


def made_item(P, many, item, around):
    if item[0] == "set":
        return made_set(P, many, item[1], item[2])
    return made_again(P, many, item[1], item[2], around)


def made_items(P, many, items, around):
    return tuple([made_item(P, many, item, around) for item in items])


def program(P, many, items):
    prime(P)
    if not is_from(many, 1, MOST_BOXES):
        raise NoProgram("there are one to three boxes")
    items_counted(items, 0)
    return made_items(P, many, items, 0)


def deeds_in_item(item):
    if item[0] == "set":
        return 1
    return item[1] * deeds_in(item[2])


def deeds_in(items):
    return sum([deeds_in_item(item) for item in items])
