"""Calls as they stand in the list, and the answers call by call."""

from chestwatches.party import answers

HUGE = 1000000000000000000


def party(span, *weights):
    return [0, span, len(weights)] + list(weights)


def medicine(unit=100, gap=1, cap=10000, for_a_kilogram=0, drowsy=0, stock=500, spoilt=2400):
    return [1, unit, gap, cap, for_a_kilogram, drowsy, stock, spoilt]


def allergy(p, m):
    return [2, p, m]


def clash(a, b, hours):
    return [3, a, b, hours]


def give(p, m, t, u):
    return [4, p, m, t, u]


def retract(j):
    return [5, j]


def why(p, m, t, u):
    return [6, p, m, t, u]


def earliest(p, m, u, t):
    return [7, p, m, u, t]


def course(p, m, u, n, t):
    return [8, p, m, u, n, t]


def room(p, m, t):
    return [9, p, m, t]


def taken(p, m, t):
    return [10, p, m, t]


def ill(p, begin, till):
    return [11, p, begin, till]


def watch(k):
    return [12, k]


def watches(a, b):
    return [13, a, b]


def counts(k):
    return [14, k]


def left(m):
    return [15, m]


def log():
    return [16]


def fit(p, h):
    return [17, p, h]


def worst(p, m):
    return [18, p, m]


def treat(p, m, u, n, t):
    return [19, p, m, u, n, t]


def well(i):
    return [20, i]


def state():
    return [21]


def flat(calls):
    return [number for call in calls for number in call]


def apart(answered):
    """The answers, call by call, of what the program gave back."""
    found = []
    at = 0
    while at < len(answered):
        end = at + 1 + answered[at]
        if end > len(answered):
            raise AssertionError("the last answer is cut off")
        found.append(answered[at + 1:end])
        at = end
    return found


def ask(*calls):
    """The answers of these calls, each a list, one for each call."""
    found = apart(answers(flat(calls)))
    if len(found) != len(calls):
        raise AssertionError("so many calls, so many answers")
    return found


def last(*calls):
    return ask(*calls)[-1]


def behind(before, calls):
    """The answers of the calls when they come behind those before."""
    return ask(*(list(before) + list(calls)))[len(before):]


def probe(people, medicines, hours=(0, 10, 24, 47, 2399)):
    """Calls whose answers tell much of what is known; those at the end change it."""
    calls = [state(), log(), watches(0, 199), counts(200)] + [left(m) for m in range(medicines)]
    for p in range(people):
        for m in range(medicines):
            for t in hours:
                calls.extend([why(p, m, t, 1), why(p, m, t, 10), room(p, m, t), taken(p, m, t)])
            calls.append(earliest(p, m, 1, 0))
            calls.append(course(p, m, 1, 3, 5))
            calls.append(worst(p, m))
        calls.extend([fit(p, h) for h in hours])
    calls.append(ill(0, 5, 9))
    calls.append(medicine())
    for p in range(people):
        calls.append(retract(0))
        calls.extend([allergy(p, m) for m in range(medicines)])
    if medicines > 1:
        calls.append(clash(0, 1, 1))
    return calls
