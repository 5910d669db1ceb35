"""Long mixed lines beside a slow reading of the document, hour by hour and window by window."""

import random
import unittest

from chestwatches.party import answers
from tests.helper import HUGE, ask, flat


class Slow:
    """What the document says, word for word and with no thought of speed."""

    def __init__(self):
        self.weights = None

    def limit(self, p, m):
        cap, for_a_kilogram = self.medicines[m][2:4]
        if for_a_kilogram != 0 and for_a_kilogram * self.weights[p] < cap:
            return for_a_kilogram * self.weights[p]
        return cap

    def had(self, doses, p, m, hours):
        return sum(d[3] * self.medicines[m][0] for d in doses if d[0] == p and d[1] == m and d[2] in hours)

    def against(self, p, m, t, doses, same):
        for j, d in enumerate(doses):
            if d[0] == p and (d[1] == m) == same:
                far = abs(d[2] - t)
                if same and far < self.medicines[m][1]:
                    return j + 1
                if not same and any({a, b} == {m, d[1]} and far < hours for a, b, hours in self.clashes):
                    return j + 1
        return 0

    def reason(self, p, m, t, u, doses):
        unit, gap, cap, kilo, drowsy, stock, spoilt = self.medicines[m]
        if (p, m) in self.allergies:
            return [1, 0]
        if t >= spoilt:
            return [2, 0]
        if u + sum(d[3] for d in doses if d[1] == m) > stock:
            return [3, 0]
        if self.against(p, m, t, doses, True):
            return [4, self.against(p, m, t, doses, True)]
        if self.against(p, m, t, doses, False):
            return [5, self.against(p, m, t, doses, False)]
        with_it = doses + [(p, m, t, u)]
        for first in range(t - 23, t + 1):
            if self.had(with_it, p, m, range(first, first + 24)) > self.limit(p, m):
                return [6, 0]
        return [0, 0]

    def first_hour(self, p, m, u, t, doses):
        for hour in range(t, 2400):
            why = self.reason(p, m, hour, u, doses)[0]
            if why == 0:
                return hour
            if why < 4:
                return None
        return None

    def party(self, span, weights):
        if not 1 <= span <= 12 or not 1 <= len(weights) <= 6 or not all(30 <= w <= 150 for w in weights):
            return [-1]
        self.span = span
        self.weights = weights
        self.medicines, self.allergies, self.clashes, self.doses, self.illnesses = [], [], [], [], []
        return [0]

    def medicine(self, *numbers):
        if len(self.medicines) == 8:
            return [-8]
        self.medicines.append(numbers)
        return [len(self.medicines) - 1]

    def allergy(self, p, m):
        if (p, m) in self.allergies:
            return [-4]
        if any(d[:2] == (p, m) for d in self.doses):
            return [-7]
        self.allergies.append((p, m))
        return [len(self.allergies)]

    def clash(self, a, b, hours):
        if a == b:
            return [-4]
        if len(self.clashes) == 30:
            return [-8]
        for d in self.doses:
            for e in self.doses:
                if d[0] == e[0] and (d[1], e[1]) == (a, b) and abs(d[2] - e[2]) < hours:
                    return [-7]
        self.clashes.append((a, b, hours))
        return [len(self.clashes)]

    def give(self, p, m, t, u):
        if len(self.doses) == 60:
            return [-8]
        why = self.reason(p, m, t, u, self.doses)[0]
        if why:
            return [-10 - why]
        self.doses.append((p, m, t, u))
        return [len(self.doses) - 1]

    def retract(self, j):
        self.doses = self.doses[:j] + self.doses[j + 1:]
        return [len(self.doses)]

    def why(self, p, m, t, u):
        return self.reason(p, m, t, u, self.doses)

    def earliest(self, p, m, u, t):
        hour = self.first_hour(p, m, u, t, self.doses)
        return [-6] if hour is None else [hour]

    def course(self, p, m, u, n, t):
        doses = list(self.doses)
        hours = []
        for each in range(n):
            t = self.first_hour(p, m, u, t, doses)
            if t is None:
                return [-6]
            hours.append(t)
            doses.append((p, m, t, u))
        return [n] + hours

    def room(self, p, m, t):
        return [max([u for u in range(1, 11) if self.reason(p, m, t, u, self.doses)[0] == 0], default=0)]

    def taken(self, p, m, t):
        return [self.had(self.doses, p, m, range(t - 23, t + 1)), self.limit(p, m)]

    def unfit(self, p, h):
        for person, begin, end in self.illnesses:
            if person == p and begin <= h < end:
                return True
        for person, m, t, u in self.doses:
            if person == p and h in range(t, t + self.medicines[m][4]):
                return True
        return False

    def standing(self, many):
        stood = []
        for k in range(many):
            able = [p for p in range(len(self.weights))
                    if not any(self.unfit(p, h) for h in range(k * self.span, k * self.span + self.span))]
            if able:
                fewest = min(stood.count(p) for p in able)
                able = [p for p in able if stood.count(p) == fewest]
                none_yet = [p for p in able if p not in stood]
                if none_yet:
                    able = none_yet
                else:
                    lasts = {p: max(w for w in range(k) if stood[w] == p) for p in able}
                    able = [p for p in able if lasts[p] == min(lasts.values())]
                stood.append(min(able))
            else:
                stood.append(-1)
        return stood

    def ill(self, p, begin, till):
        if len(self.illnesses) == 30:
            return [-8]
        self.illnesses.append((p, begin, till))
        return [len(self.illnesses) - 1]

    def watch(self, k):
        return [self.standing(k + 1)[-1]]

    def watches(self, a, b):
        return [b - a + 1] + self.standing(b + 1)[a:]

    def counts(self, k):
        stood = self.standing(k)
        return [stood.count(p) for p in range(len(self.weights))]

    def left(self, m):
        return [self.medicines[m][5] - sum(d[3] for d in self.doses if d[1] == m)]

    def log(self):
        return [len(self.doses)] + [number for dose in self.doses for number in dose]

    def fit(self, p, h):
        return [0 if self.unfit(p, h) else 1]

    def worst(self, p, m):
        firsts = {first for d in self.doses for first in range(d[2] - 23, d[2] + 1)}
        return [max([self.had(self.doses, p, m, range(first, first + 24)) for first in firsts], default=0)]

    def treat(self, p, m, u, n, t):
        if len(self.doses) + n > 60:
            return [-8]
        told = self.course(p, m, u, n, t)
        if told != [-6]:
            self.doses += [(p, m, hour, u) for hour in told[1:]]
        return told

    def well(self, i):
        self.illnesses = self.illnesses[:i] + self.illnesses[i + 1:]
        return [len(self.illnesses)]

    def state(self):
        told = [self.span, len(self.weights)] + self.weights
        for part in (self.medicines, self.allergies, self.clashes, self.illnesses):
            told += [len(part)] + [number for one in part for number in one]
        return told

    def in_range(self, place, numbers):
        ends = {"p": (0, len(self.weights) - 1), "m": (0, len(self.medicines) - 1), "j": (0, len(self.doses) - 1),
                "t": (0, 2399), "u": (1, 10), "n": (1, 20), "h": (1, 72), "i": (0, len(self.illnesses) - 1),
                "k": (0, 199), "c": (0, 200)}
        if place == 1:
            told = [(1, 1000), (1, 48), (1, 10000), (0, 200), (0, 24), (0, 500), (0, 2400)]
        elif place == 11:
            told = [ends["p"], ends["t"], (numbers[1] + 1, 2400)]
        elif place == 13:
            told = [ends["k"], (numbers[0], 199)]
        else:
            words = {2: "pm", 3: "mmh", 4: "pmtu", 5: "j", 6: "pmtu", 7: "pmut", 8: "pmunt", 9: "pmt", 10: "pmt",
                     12: "k", 14: "c", 15: "m", 16: "", 17: "pt", 18: "pm", 19: "pmunt", 20: "i", 21: ""}
            told = [ends[letter] for letter in words[place]]
        return all(least <= number <= most for number, (least, most) in zip(numbers, told))

    def answer(self, call):
        if call[0] == 0:
            return self.party(call[1], call[3:])
        if self.weights is None:
            return [-2]
        if not self.in_range(call[0], call[1:]):
            return [-1]
        names = ["party", "medicine", "allergy", "clash", "give", "retract", "why", "earliest", "course", "room",
                 "taken", "ill", "watch", "watches", "counts", "left", "log", "fit", "worst", "treat", "well", "state"]
        return getattr(self, names[call[0]])(*call[1:])

    def rules_kept(self):
        """Each dose may be given beside all the others, so all rules hold among them."""
        for j, dose in enumerate(self.doses):
            if self.reason(*dose, self.doses[:j] + self.doses[j + 1:])[0]:
                return False
        return True


class Lines:
    """Lines of calls from a fixed seed; the hours lie near one another so that doses meet."""

    def __init__(self, seed):
        self.chance = random.Random(seed)
        self.people = self.chance.randint(1, 4)
        self.span = self.chance.choice([1, 2, 4, 4, 7, 12])
        self.medicines = self.chance.randint(1, 4)
        self.first = self.chance.choice([0, 0, 0, 700, 2250])
        self.reach = self.chance.choice([30, 80, 149])

    def hour(self):
        return self.first + self.chance.randint(0, self.reach)

    def dose(self):
        return [self.chance.randrange(self.people), self.chance.randrange(self.medicines)]

    def units(self):
        return self.chance.choice([1, 1, 1, 2, 2, 3, 5, 10])

    def told_medicine(self):
        pick = self.chance
        spoilt = pick.choice([2400, 2400, 2400, self.hour()])
        return [1, pick.choice([1, 10, 100]), pick.choice([1, 2, 4, 12, 30]), pick.choice([9, 50, 300, 1000]),
                pick.choice([0, 0, 1, 5]), pick.choice([0, 0, 1, 3, 8, 24]), pick.choice([500, 500, 60, 12]), spoilt]

    def told_party(self):
        return [0, self.span, self.people] + [self.chance.randint(30, 150) for each in range(self.people)]

    def watch(self):
        return min(199, self.hour() // self.span)

    def told_illness(self):
        begin = self.hour()
        return [11, self.chance.randrange(self.people), begin,
                min(2400, begin + self.chance.choice([0, 1, 1, 2, 4, 5, 9, 20, 60]))]

    def told_watches(self):
        a = self.watch()
        return [13, a, min(199, a + self.chance.randint(-1, 12))]

    def call(self):
        pick = self.chance
        place = pick.choice([0, 1, 2, 3, 3, 5, 5, 5, 6, 6, 6, 7, 7, 7, 8, 8, 9, 9, 10, 10, 11, 11, 11, 12, 12, 13, 13,
                             14, 14, 15, 16, 17, 17, 18, 18, 19, 20, 20, 21] + [4] * 18)
        made = {
            0: lambda: self.told_party() if pick.random() < 0.02 else [0, 4, 1, 29],
            1: self.told_medicine,
            2: lambda: [2] + self.dose() if pick.random() < 0.3 else [9] + self.dose() + [self.hour()],
            3: lambda: [3, self.dose()[1], self.dose()[1], pick.choice([1, 2, 5, 9, 24])],
            4: lambda: [4] + self.dose() + [self.hour(), self.units()],
            5: lambda: [5, pick.randint(0, 12)],
            6: lambda: [6] + self.dose() + [self.hour(), self.units()],
            7: lambda: [7] + self.dose() + [self.units(), self.hour()],
            8: lambda: [8] + self.dose() + [self.units(), pick.randint(1, 20), self.hour()],
            9: lambda: [9] + self.dose() + [self.hour()],
            10: lambda: [10] + self.dose() + [self.hour()],
            11: self.told_illness,
            12: lambda: [12, self.watch()],
            13: self.told_watches,
            14: lambda: [14, self.watch() + 1],
            15: lambda: [15, self.dose()[1]],
            16: lambda: [16],
            17: lambda: [17, self.dose()[0], self.hour()],
            18: lambda: [18] + self.dose(),
            19: lambda: [19] + self.dose() + [self.units(), pick.choice([1, 2, 3, 4, 20]), self.hour()],
            20: lambda: [20, pick.randint(0, 6)],
            21: lambda: [21],
        }[place]()
        if made[0] != 0 and len(made) > 1 and pick.random() < 0.03:
            made[pick.randrange(1, len(made))] = pick.choice([-1, -HUGE, HUGE, 11, 2400])
        return made

    def line(self, many):
        calls = [self.told_party()] + [self.told_medicine() for each in range(self.medicines)]
        return calls + [self.call() for each in range(many)]


class PlainReading(unittest.TestCase):
    def test_every_answer_is_as_the_document_says(self):
        seen = {}
        most_doses = 0
        most_illnesses = 0
        for seed in range(80):
            calls = Lines(seed).line(130)
            slow = Slow()
            found = ask(*calls)
            for at, call in enumerate(calls):
                told = slow.answer(call)
                self.assertEqual(found[at], told, (seed, at, call))
                seen[(call[0], min(told[0], 0))] = True
                if call[0] == 6:
                    seen[("why", told[0])] = True
                if call[0] == 13 and len(told) > 1:
                    seen[("nobody", -1 in told[1:])] = True
                if slow.weights is not None:
                    most_doses = max(most_doses, len(slow.doses))
                    most_illnesses = max(most_illnesses, len(slow.illnesses))
            self.assertTrue(slow.rules_kept(), seed)
        # The lines must reach what they are there for.
        sights = [(4, -11 - n) for n in range(6)] + [("why", n) for n in range(7)]
        sights += [(7, -6), (8, -6), (3, -7), (19, -6), (19, -8), ("nobody", True), ("nobody", False)]
        sights += [(place, 0) for place in range(22)] + [(place, -1) for place in range(22) if place not in (16, 21)]
        for sight in sights:
            self.assertIn(sight, seen)
        self.assertGreater(most_doses, 40)
        self.assertGreater(most_illnesses, 5)

    def test_lines_of_400_calls_twice_over(self):
        places = set()
        for seed in range(900, 912):
            maker = Lines(seed)
            calls = maker.line(399 - maker.medicines)
            self.assertEqual(len(calls), 400)
            places |= {call[0] for call in calls}
            line = flat(calls)
            before = list(line)
            first = answers(line)
            self.assertEqual(line, before)
            self.assertEqual(answers(line), first)
        self.assertEqual(places, set(range(22)))


if __name__ == "__main__":
    unittest.main()
