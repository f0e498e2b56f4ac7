"""Programs as texts of three rows."""

from longrounds.errors import NoProgram
from longrounds.errors import NoText
from longrounds.numbers import is_prime
from longrounds.programs import MOST_BOXES
from longrounds.programs import MOST_DEEP
from longrounds.programs import program

FIGURES = "0123456789"
MOST_FIGURES = 31
LETTERS = "abcdefghijklmnopqrstuvwxyz"
MOST_LETTERS = 8


def written(numbers):
    return [str(n) for n in numbers]


def words_of_item(names, item):
    if item[0] == "set":
        return ["set", names[item[1]]] + written(item[2])
    return ["again", str(item[1]), "["] + words_of(names, item[2]) + ["]"]


def words_of(names, items):
    words = []
    for item in items:
        words.extend(words_of_item(names, item))
    return words


def show(P, names, items):
    rows = [["prime", str(P)], ["boxes"] + list(names), ["do"] + words_of(names, items)]
    return "\n".join([" ".join(row) for row in rows])


def is_made_of(word, signs, most):
    return 1 <= len(word) and len(word) <= most and all([sign in signs for sign in word])


def number_from(word):
    # No number of a program has more figures than 10 ** 30, and Python reads no number of very many.
    if not is_made_of(word, FIGURES, MOST_FIGURES) or (word[0] == "0" and word != "0"):
        raise NoText("a number is written by figures alone, with no 0 ahead")
    return int(word)


def number_on_wheel(P, word):
    n = number_from(word)
    if n >= P:
        raise NoText("a form's numbers are on the wheel")
    return n


def taken(words, count):
    # The words come turned round, so that the first ones are taken from the end.
    if len(words) < count:
        raise NoText("the text is a word short")
    return [words.pop() for turn in range(count)]


def take_sign(words, sign):
    if taken(words, 1) != [sign]:
        raise NoText("the items of an again stand within [ and ]")


def set_from(P, names, words):
    name = taken(words, 1)[0]
    if name not in names:
        raise NoText("a set is of a box that has been named")
    form = [number_on_wheel(P, word) for word in taken(words, len(names) + 1)]
    return ("set", names.index(name), tuple(form))


def again_from(P, names, words, around):
    # Refused here, and not only when the program is made: else a text could lead the reading itself too deep.
    if around >= MOST_DEEP:
        raise NoText("agains stand at most three deep")
    n = number_from(taken(words, 1)[0])
    take_sign(words, "[")
    items = items_from(P, names, words, around + 1)
    take_sign(words, "]")
    return ("again", n, items)


def item_from(P, names, words, around):
    word = taken(words, 1)[0]
    if word == "set":
        return set_from(P, names, words)
    if word == "again":
        return again_from(P, names, words, around)
    raise NoText("an item is a set or an again")


def items_from(P, names, words, around):
    items = []
    while words and words[-1] != "]":
        items.append(item_from(P, names, words, around))
    return tuple(items)


def words_behind(row, first):
    words = row.split(" ")
    if words[0] != first:
        raise NoText("the rows begin with prime, boxes and do")
    return words[1:]


def read_prime(words):
    if len(words) != 1:
        raise NoText("one prime is told")
    P = number_from(words[0])
    if not is_prime(P):
        raise NoText("the number is no prime from 3 to 9999")
    return P


def is_name(word):
    return is_made_of(word, LETTERS, MOST_LETTERS) and word not in ("set", "again")


def read_names(words):
    if not words or len(words) > MOST_BOXES or len(set(words)) != len(words):
        raise NoText("there are one to three names, no two alike")
    if not all([is_name(word) for word in words]):
        raise NoText("a name has one to eight small letters, and is neither set nor again")
    return tuple(words)


def read_items(P, names, words):
    left = list(reversed(words))
    items = items_from(P, names, left, 0)
    if left:
        raise NoText("there is a ] too many")
    try:
        return program(P, len(names), items)
    except NoProgram:
        raise NoText("there are too many items, or too many rounds") from None


def read(text):
    rows = text.split("\n")
    if len(rows) != 3:
        raise NoText("a program's text has three rows")
    P = read_prime(words_behind(rows[0], "prime"))
    names = read_names(words_behind(rows[1], "boxes"))
    return (P, names, read_items(P, names, words_behind(rows[2], "do")))
