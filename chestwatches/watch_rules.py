"""Who is unfit when, and who stands which watch, by what is written down now."""

NOBODY = -1
NO_WATCH_YET = -1


# The times in which the person is unfit, each its first hour and the hour behind its last.
def unfit_times(book, person):
    times = [(illness.begin, illness.end) for illness in book.illnesses if illness.person == person]
    for dose in book.doses:
        drowsy = book.medicines[dose.medicine].drowsy
        # A time of no hours would still be counted for the watch in which it lies.
        if dose.person == person and drowsy > 0:
            times.append((dose.hour, dose.hour + drowsy))
    return times


def is_fit(book, person, hour):
    return not any([begin <= hour < end for begin, end in unfit_times(book, person)])


# Of the first so many watches those in which the person is unfit in some hour.
def watches_missed(book, person, many):
    missed = {}
    for begin, end in unfit_times(book, person):
        last_watch = (end - 1) // book.span
        for watch in range(begin // book.span, min(last_watch + 1, many)):
            missed[watch] = True
    return missed


# Who stands each of the first so many watches.
def roster(book, many):
    people = list(range(len(book.weights)))
    missed = [watches_missed(book, person, many) for person in people]
    stood = [0 for person in people]
    latest = [NO_WATCH_YET for person in people]
    standing = []
    for watch in range(many):
        turns = [(stood[person], latest[person], person) for person in people if watch not in missed[person]]
        if len(turns) == 0:
            standing.append(NOBODY)
        else:
            chosen = min(turns)[2]
            stood[chosen] = stood[chosen] + 1
            latest[chosen] = watch
            standing.append(chosen)
    return standing


# How many of the first so many watches each person has stood.
def watches_stood(book, many):
    standing = roster(book, many)
    return [standing.count(person) for person in range(len(book.weights))]
