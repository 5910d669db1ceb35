"""How calls stand in the list that is handed in, and the ranges of their numbers."""

PARTY = 0
MOST_PEOPLE = 6
LEAST_WEIGHT = 30
MOST_WEIGHT = 150
HOURS = 2400
LAST_WATCH = 199

# The arguments of each place from 0 to 21. "p" is a person, "m" a medicine, "j" a dose's number,
# "i" an illness's number, "t" an hour and "u" units; a name that has a range below is held to that
# range. The k of counts has a name of its own, since it reaches one further than that of watch.
ARGUMENTS = (
    ("span",),
    ("unit", "gap", "cap", "for_a_kilogram", "drowsy", "stock", "spoilt"),
    ("p", "m"),
    ("m", "m", "hours"),
    ("p", "m", "t", "u"),
    ("j",),
    ("p", "m", "t", "u"),
    ("p", "m", "u", "t"),
    ("p", "m", "u", "n", "t"),
    ("p", "m", "t"),
    ("p", "m", "t"),
    ("p", "begin", "till"),
    ("k",),
    ("a", "b"),
    ("watches_before",),
    ("m",),
    (),
    ("p", "t"),
    ("p", "m"),
    ("p", "m", "u", "n", "t"),
    ("i",),
    (),
)

RANGES = {
    "span": (1, 12),
    "unit": (1, 1000),
    "gap": (1, 48),
    "cap": (1, 10000),
    "for_a_kilogram": (0, 200),
    "drowsy": (0, 24),
    "stock": (0, 500),
    "spoilt": (0, 2400),
    "hours": (1, 72),
    "begin": (0, 2399),
    "k": (0, 199),
    "a": (0, 199),
    "watches_before": (0, 200),
    "n": (1, 20),
    "t": (0, 2399),
    "u": (1, 10),
}


# One call: its place, its numbers, and its row (empty where none is told).
class Call:
    def __init__(self, place, numbers, row):
        self.place = place
        self.numbers = numbers
        self.row = row


# The calls that stand one behind another in the list.
def read_calls(numbers):
    calls = []
    begin = 0
    while begin < len(numbers):
        place = numbers[begin]
        end = begin + 1 + len(ARGUMENTS[place])
        arguments = numbers[begin + 1:end]
        row = []
        if place == PARTY:
            row = numbers[end + 1:end + 1 + numbers[end]]
            end = end + 1 + len(row)
        calls.append(Call(place, arguments, row))
        begin = end
    return calls


# The least and the greatest number that may stand for an argument of that name, where ahead
# is the number ahead of it in the call.
def range_of(book, name, ahead):
    if name == "p":
        return (0, len(book.weights) - 1)
    if name == "m":
        return (0, len(book.medicines) - 1)
    if name == "j":
        return (0, len(book.doses) - 1)
    if name == "i":
        return (0, len(book.illnesses) - 1)
    if name == "till":
        return (ahead + 1, HOURS)
    if name == "b":
        return (ahead, LAST_WATCH)
    return RANGES[name]


def within(number, bounds):
    return bounds[0] <= number <= bounds[1]


# Whether the span and the row of weights of a call of party are as told.
def party_as_told(call):
    if not within(call.numbers[0], RANGES["span"]):
        return False
    if not 1 <= len(call.row) <= MOST_PEOPLE:
        return False
    return all([LEAST_WEIGHT <= weight <= MOST_WEIGHT for weight in call.row])


# Whether each number of a call other than party is within its range.
def numbers_as_told(book, call):
    ahead = 0
    for number, name in zip(call.numbers, ARGUMENTS[call.place]):
        if not within(number, range_of(book, name, ahead)):
            return False
        ahead = number
    return True
