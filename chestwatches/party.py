"""Answers a line of calls on a new party."""

from chestwatches.book import Book
from chestwatches.chest_calls import answer_chest_call, is_chest_call
from chestwatches.reading import PARTY, numbers_as_told, party_as_told, read_calls
from chestwatches.refusals import NO_PARTY, OUT_OF_RANGE
from chestwatches.watch_calls import answer_watch_call


# A line of calls; at its beginning there is no party and so no book.
class Line:
    def __init__(self):
        self.book = None


def begin_party(line, call):
    if not party_as_told(call):
        return [OUT_OF_RANGE]
    line.book = Book(call.numbers[0], call.row)
    return [0]


def answer_call(line, call):
    if call.place == PARTY:
        return begin_party(line, call)
    if line.book is None:
        return [NO_PARTY]
    if not numbers_as_told(line.book, call):
        return [OUT_OF_RANGE]
    if is_chest_call(call):
        return answer_chest_call(line.book, call)
    return answer_watch_call(line.book, call)


# For each call in the list: how many numbers are answered, then these.
def answers(calls):
    line = Line()
    answered = []
    for call in read_calls(calls):
        answer = answer_call(line, call)
        answered.append(len(answer))
        answered.extend(answer)
    return answered
