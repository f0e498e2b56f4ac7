"""The desk: answers in texts to questions about programs that are told as texts."""

from longrounds.alikes import parting
from longrounds.backs import undone
from longrounds.errors import NoText
from longrounds.making import after
from longrounds.numbers import is_from
from longrounds.reaching import reach
from longrounds.texts import read
from longrounds.texts import show
from longrounds.texts import written


def stand_from(P, many, numbers):
    if len(numbers) != many or not all([is_from(n, 0, P - 1) for n in numbers]):
        raise NoText("a stand has a number on the wheel for each box")
    return tuple(numbers)


def leads(text, n, stand):
    told = read(text)
    P = told[0]
    many = len(told[1])
    return " ".join(written(after(P, many, told[2], n, stand_from(P, many, stand))))


def undo(text):
    told = read(text)
    P = told[0]
    names = told[1]
    return show(P, names, undone(P, len(names), told[2]))


def compare(text, other):
    one = read(text)
    two = read(other)
    P = one[0]
    many = len(one[1])
    if two[0] != P or len(two[1]) != many:
        raise NoText("the second program is of another prime or another number of boxes")
    told = parting(P, many, one[2], two[2])
    if told is None:
        return "alike"
    return " ".join(["parted"] + written(told[0]))


def ask(text, stand, goal):
    told = read(text)
    P = told[0]
    many = len(told[1])
    start = stand_from(P, many, stand)
    end = stand_from(P, many, goal)
    answer = reach(P, many, told[2], start, end)
    if answer[0] == "after":
        n = answer[1]
        return f"after {n}"
    return "never"
