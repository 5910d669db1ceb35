"""All that was told of a party, as numbers, in the order of telling."""


def medicine_numbers(told):
    return [told.unit, told.gap, told.cap, told.for_a_kilogram, told.drowsy, told.stock, told.spoilt]


# How many there are, then the numbers of each.
def counted(groups):
    numbers = [len(groups)]
    for group in groups:
        numbers.extend(group)
    return numbers


def state_numbers(book):
    numbers = [book.span, len(book.weights)] + book.weights
    numbers.extend(counted([medicine_numbers(told) for told in book.medicines]))
    numbers.extend(counted(book.allergies))
    numbers.extend(counted(book.clashes))
    numbers.extend(counted([(illness.person, illness.begin, illness.end) for illness in book.illnesses]))
    return numbers
