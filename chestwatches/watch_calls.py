"""The calls on the people: illnesses, who is fit, the watches; and the state of all.

Each is handed numbers that are within their ranges.
"""

from chestwatches.book import Illness
from chestwatches.refusals import FULL
from chestwatches.telling import state_numbers
from chestwatches.watch_rules import is_fit, roster, watches_stood

MOST_ILLNESSES = 30


def ill(book, numbers):
    if len(book.illnesses) == MOST_ILLNESSES:
        return [FULL]
    book.illnesses.append(Illness(numbers[0], numbers[1], numbers[2]))
    return [len(book.illnesses) - 1]


def watch(book, numbers):
    return [roster(book, numbers[0] + 1)[numbers[0]]]


def watches(book, numbers):
    standing = roster(book, numbers[1] + 1)[numbers[0]:]
    return [len(standing)] + standing


def counts(book, numbers):
    return watches_stood(book, numbers[0])


def fit(book, numbers):
    if is_fit(book, numbers[0], numbers[1]):
        return [1]
    return [0]


def well(book, numbers):
    book.illnesses.pop(numbers[0])
    return [len(book.illnesses)]


def state(book, numbers):
    return state_numbers(book)


WATCH_CALLS = {
    11: ill,
    12: watch,
    13: watches,
    14: counts,
    17: fit,
    20: well,
    21: state,
}


def answer_watch_call(book, call):
    asked = WATCH_CALLS[call.place]
    return asked(book, call.numbers)
