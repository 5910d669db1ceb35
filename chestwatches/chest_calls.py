"""The calls on the chest: medicines, allergies, clashes, doses, courses and what is left.

Each is handed numbers that are within their ranges.
"""

from chestwatches.book import Dose, Medicine, write_clash
from chestwatches.refusals import DOSE_FORBIDDEN, FULL, NO_HOUR, TOLD_OR_SAME, WRITTEN_AGAINST
from chestwatches.rules import course_hours, earliest_hour, limit_for, milligrams_taken, moved, most_milligrams
from chestwatches.rules import room_for, units_left, why_not

MOST_MEDICINES = 8
MOST_CLASHES = 30
MOST_DOSES = 60


def tell_medicine(book, numbers):
    if len(book.medicines) == MOST_MEDICINES:
        return [FULL]
    book.medicines.append(Medicine(numbers))
    return [len(book.medicines) - 1]


def tell_allergy(book, numbers):
    person = numbers[0]
    medicine = numbers[1]
    if (person, medicine) in book.allergies:
        return [TOLD_OR_SAME]
    if any([dose.person == person and dose.medicine == medicine for dose in book.doses]):
        return [WRITTEN_AGAINST]
    book.allergies.append((person, medicine))
    return [len(book.allergies)]


# Whether somebody has doses of both medicines less than these hours apart.
def doses_nearer(book, one, other, hours):
    of_other = [dose for dose in book.doses if dose.medicine == other]
    for dose in book.doses:
        if dose.medicine == one:
            near = [late for late in of_other if late.person == dose.person and abs(late.hour - dose.hour) < hours]
            if len(near) > 0:
                return True
    return False


def tell_clash(book, numbers):
    one = numbers[0]
    other = numbers[1]
    hours = numbers[2]
    if one == other:
        return [TOLD_OR_SAME]
    if len(book.clashes) == MOST_CLASHES:
        return [FULL]
    if doses_nearer(book, one, other, hours):
        return [WRITTEN_AGAINST]
    write_clash(book, one, other, hours)
    return [len(book.clashes)]


def give(book, numbers):
    if len(book.doses) == MOST_DOSES:
        return [FULL]
    dose = Dose(numbers[0], numbers[1], numbers[2], numbers[3])
    reason = why_not(book, book.doses, dose)[0]
    if reason > 0:
        return [DOSE_FORBIDDEN - reason]
    book.doses.append(dose)
    return [len(book.doses) - 1]


def retract(book, numbers):
    book.doses.pop(numbers[0])
    return [len(book.doses)]


def why(book, numbers):
    return list(why_not(book, book.doses, Dose(numbers[0], numbers[1], numbers[2], numbers[3])))


def earliest(book, numbers):
    hour = earliest_hour(book, book.doses, Dose(numbers[0], numbers[1], numbers[3], numbers[2]))
    if hour is None:
        return [NO_HOUR]
    return [hour]


def course(book, numbers):
    hours = course_hours(book, Dose(numbers[0], numbers[1], numbers[4], numbers[2]), numbers[3])
    if hours is None:
        return [NO_HOUR]
    return [len(hours)] + hours


def room(book, numbers):
    return [room_for(book, numbers[0], numbers[1], numbers[2])]


def taken(book, numbers):
    person = numbers[0]
    medicine = numbers[1]
    return [milligrams_taken(book, person, medicine, numbers[2]), limit_for(book, person, medicine)]


def left(book, numbers):
    return [units_left(book, book.doses, numbers[0])]


def log(book, numbers):
    told = [len(book.doses)]
    for dose in book.doses:
        told.extend([dose.person, dose.medicine, dose.hour, dose.units])
    return told


def worst(book, numbers):
    return [most_milligrams(book, numbers[0], numbers[1])]


def treat(book, numbers):
    many = numbers[3]
    if len(book.doses) + many > MOST_DOSES:
        return [FULL]
    dose = Dose(numbers[0], numbers[1], numbers[4], numbers[2])
    hours = course_hours(book, dose, many)
    if hours is None:
        return [NO_HOUR]
    book.doses.extend([moved(dose, hour) for hour in hours])
    return [len(hours)] + hours


CHEST_CALLS = {
    1: tell_medicine,
    2: tell_allergy,
    3: tell_clash,
    4: give,
    5: retract,
    6: why,
    7: earliest,
    8: course,
    9: room,
    10: taken,
    15: left,
    16: log,
    18: worst,
    19: treat,
}


def is_chest_call(call):
    return call.place in CHEST_CALLS


def answer_chest_call(book, call):
    asked = CHEST_CALLS[call.place]
    return asked(book, call.numbers)
