"""Which doses may be given, and when.

The doses beside which one is asked for are handed in, since a course is laid
out beside doses that are not written down.
"""

from chestwatches.book import Dose

DAY = 24
MOST_UNITS = 10

ALLERGIC = 1
SPOILT = 2
OUT_OF_STOCK = 3
WITHIN_GAP = 4
CLASHING = 5
OVER_LIMIT = 6


# The most milligrams of a medicine that a person may have in 24 hours.
def limit_for(book, person, medicine):
    told = book.medicines[medicine]
    by_weight = told.for_a_kilogram * book.weights[person]
    if told.for_a_kilogram > 0 and by_weight < told.cap:
        return by_weight
    return told.cap


def is_allergic(book, dose):
    return (dose.person, dose.medicine) in book.allergies


# The units that are left of the medicine's stock beside these doses.
def units_left(book, doses, medicine):
    return book.medicines[medicine].stock - sum([dose.units for dose in doses if dose.medicine == medicine])


def is_out_of_stock(book, doses, dose):
    return dose.units > units_left(book, doses, dose.medicine)


# How many hours the two doses must be apart, 0 if they have nothing to do with one another.
def hours_apart(book, dose, other):
    if dose.person != other.person:
        return 0
    if dose.medicine == other.medicine:
        return book.medicines[dose.medicine].gap
    return book.apart.get((dose.medicine, other.medicine), 0)


def is_too_near(book, dose, other):
    return abs(dose.hour - other.hour) < hours_apart(book, dose, other)


# One more than the least number of a dose too near, 0 if none is.
# Looked at are either the doses of the same medicine or those of all others.
def first_too_near(book, doses, dose, same_medicine):
    for number, other in enumerate(doses):
        if (other.medicine == dose.medicine) == same_medicine and is_too_near(book, dose, other):
            return number + 1
    return 0


def doses_of(doses, person, medicine):
    return [dose for dose in doses if dose.person == person and dose.medicine == medicine]


# The units of these doses in the 24 hours that begin with the hour first.
def units_in_day(doses, first):
    return sum([dose.units for dose in doses if first <= dose.hour < first + DAY])


# The milligrams that the person has had of the medicine in the 24 hours that end with the hour.
def milligrams_taken(book, person, medicine, hour):
    units = units_in_day(doses_of(book.doses, person, medicine), hour - DAY + 1)
    return units * book.medicines[medicine].unit


# The most milligrams that the person has had of the medicine in any 24 hours one behind another.
def most_milligrams(book, person, medicine):
    same = doses_of(book.doses, person, medicine)
    # Some fullest 24 hours begin with a dose: moved on to their first dose they lose none.
    units = max([units_in_day(same, dose.hour) for dose in same], default=0)
    return units * book.medicines[medicine].unit


# The latest beginning of 24 hours that hold the dose's hour and are over the limit with it, else None.
def last_overfull_day(book, doses, dose):
    same = doses_of(doses, dose.person, dose.medicine)
    unit = book.medicines[dose.medicine].unit
    limit = limit_for(book, dose.person, dose.medicine)
    # If a beginning is overfull and the hour behind it isn't, a dose lies just at that
    # beginning; so the latest one is the hour asked for or the hour of some dose.
    beginnings = [other.hour for other in same if dose.hour - DAY < other.hour < dose.hour]
    beginnings.append(dose.hour)
    for first in sorted(beginnings, reverse=True):
        if (units_in_day(same, first) + dose.units) * unit > limit:
            return first
    return None


# Why the dose may not be given (0 if it may), and one more than the number of the dose against it.
def why_not(book, doses, dose):
    if is_allergic(book, dose):
        return (ALLERGIC, 0)
    if dose.hour >= book.medicines[dose.medicine].spoilt:
        return (SPOILT, 0)
    if is_out_of_stock(book, doses, dose):
        return (OUT_OF_STOCK, 0)
    against = first_too_near(book, doses, dose, True)
    if against > 0:
        return (WITHIN_GAP, against)
    against = first_too_near(book, doses, dose, False)
    if against > 0:
        return (CLASHING, against)
    if last_overfull_day(book, doses, dose) is not None:
        return (OVER_LIMIT, 0)
    return (0, 0)


def moved(dose, hour):
    return Dose(dose.person, dose.medicine, hour, dose.units)


# The dose's own hour if gaps, clashes and the limit let it be, else one up to which they forbid all hours.
def hour_behind_hindrance(book, doses, dose):
    near = [other.hour + hours_apart(book, dose, other) for other in doses if is_too_near(book, dose, other)]
    if len(near) > 0:
        return max(near)
    first = last_overfull_day(book, doses, dose)
    if first is None:
        return dose.hour
    return first + DAY


# The least hour, from the dose's own on, at which it may be given; None if there is none.
def earliest_hour(book, doses, dose):
    if is_allergic(book, dose) or is_out_of_stock(book, doses, dose):
        return None
    # This is at most the hour behind the last one, so the search ends with the hours too.
    spoilt = book.medicines[dose.medicine].spoilt
    hour = dose.hour
    while hour < spoilt:
        free_hour = hour_behind_hindrance(book, doses, moved(dose, hour))
        if free_hour == hour:
            return hour
        hour = free_hour
    return None


# The hours of a course of so many such doses from the dose's own hour on; None if one has no hour.
def course_hours(book, dose, many):
    doses = list(book.doses)
    hours = []
    hour = dose.hour
    while len(hours) < many:
        hour = earliest_hour(book, doses, moved(dose, hour))
        if hour is None:
            return None
        hours.append(hour)
        doses.append(moved(dose, hour))
    return hours


# The greatest number of units, up to 10, that may be given then; 0 if none may.
def room_for(book, person, medicine, hour):
    units = MOST_UNITS
    while units > 0 and why_not(book, book.doses, Dose(person, medicine, hour, units))[0] > 0:
        units = units - 1
    return units
