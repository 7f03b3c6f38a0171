"""Calls laid out as the interface tells, and answers taken apart again."""

from toldforms.desk import answers

LOWEST = -10 ** 18
HIGHEST = 10 ** 18


def coded(text):
    """The bytes of a text; a list of bytes as it is."""
    return [ord(sign) for sign in text] if isinstance(text, str) else list(text)


def row(text):
    signs = coded(text)
    return [len(signs)] + signs


def form(i):
    return [0, i]


def read(i, text):
    return [1, i] + row(text)


def number(i, n, s):
    return [2, i, n, s]


def date(i, year, month, day):
    return [3, i, year, month, day]


def convert(i, j, text):
    return [4, i, j] + row(text)


def fits(text):
    return [5] + row(text)


def day(year, month, day_of_month):
    return [6, year, month, day_of_month]


def dateof(n):
    return [7, n]


def shift(i, n, text):
    return [8, i, n] + row(text)


def add(source, target):
    return [9] + row(source) + row(target)


def take(i):
    return [10, i]


def pairs():
    return [11]


def least():
    return [12]


def apply(text):
    return [13] + row(text)


def outputs(text):
    return [14] + row(text)


def joined(calls):
    return [part for call in calls for part in call]


def taken_apart(given):
    found = []
    place = 0
    while place < len(given):
        end = place + 1 + given[place]
        if given[place] < 1 or end > len(given):
            raise AssertionError("a wrong count ahead of an answer")
        found.append(given[place + 1:end])
        place = end
    return found


def ask_all(calls):
    """The answers to calls on one object."""
    return taken_apart(answers(joined(calls)))


def ask(call):
    """The answer to one call on a new object."""
    found = ask_all([call])
    if len(found) != 1:
        raise AssertionError("one answer was due")
    return found[0]


def ask_many(calls, at_once=90):
    """The answers to calls that don't hang together, as many in a list as may be."""
    found = []
    for start in range(0, len(calls), at_once):
        found.extend(ask_all(calls[start:start + at_once]))
    return found


def text_of(text):
    """The answer that is a text."""
    return [0] + coded(text)


def given(count, text):
    """A part of what outputs answers: how many pairs give a text, its length and its bytes."""
    return [count, len(text)] + coded(text)
