"""Every number of every call at both ends of its range, one beyond them, and as great as may be."""

import unittest

from tests.helper import (
    HUGE, allergy, ask, behind, clash, counts, fit, give, ill, medicine, party, probe, treat, watch, watches,
)

# Three people, two medicines, two doses, three illnesses.
BEFORE = [
    party(4, 70, 80, 90), medicine(10, 2, 9000, 0, 5, 500, 2400), medicine(20, 3, 9000, 0, 0, 500, 2400),
    give(0, 0, 1000, 1), give(1, 1, 1000, 2), ill(0, 30, 50), ill(1, 500, 700), ill(0, 10, 11),
]

# The place, some numbers that are as told, and each number's range.
CALLS = [
    (1, (500, 6, 4000, 50, 2, 100, 2000),
     ((1, 1000), (1, 48), (1, 10000), (0, 200), (0, 24), (0, 500), (0, 2400))),
    (2, (2, 0), ((0, 2), (0, 1))),
    (3, (0, 1, 5), ((0, 1), (0, 1), (1, 72))),
    (4, (0, 0, 50, 1), ((0, 2), (0, 1), (0, 2399), (1, 10))),
    (5, (0,), ((0, 1),)),
    (6, (0, 0, 50, 1), ((0, 2), (0, 1), (0, 2399), (1, 10))),
    (7, (0, 0, 1, 50), ((0, 2), (0, 1), (1, 10), (0, 2399))),
    (8, (0, 0, 1, 1, 50), ((0, 2), (0, 1), (1, 10), (1, 20), (0, 2399))),
    (9, (0, 0, 50), ((0, 2), (0, 1), (0, 2399))),
    (10, (0, 0, 50), ((0, 2), (0, 1), (0, 2399))),
    (11, (0, 50, 2400), ((0, 2), (0, 2399), (51, 2400))),
    (11, (0, 0, 1), ((0, 2), (0, 0), (1, 2400))),
    (11, (0, 2399, 2400), ((0, 2), (0, 2399), (2400, 2400))),
    (12, (50,), ((0, 199),)),
    (13, (50, 60), ((0, 60), (50, 199))),
    (13, (0, 0), ((0, 0), (0, 199))),
    (13, (199, 199), ((0, 199), (199, 199))),
    (14, (50,), ((0, 200),)),
    (15, (0,), ((0, 1),)),
    (17, (0, 50), ((0, 2), (0, 2399))),
    (18, (0, 0), ((0, 2), (0, 1))),
    (19, (0, 0, 1, 1, 50), ((0, 2), (0, 1), (1, 10), (1, 20), (0, 2399))),
    (20, (0,), ((0, 2),)),
]


def with_number(place, numbers, at, number):
    changed = list(numbers)
    changed[at] = number
    return [place] + changed


class Ranges(unittest.TestCase):
    def test_both_ends_are_as_told(self):
        for place, numbers, ranges in CALLS:
            for at, ends in enumerate(ranges):
                for number in ends:
                    call = with_number(place, numbers, at, number)
                    with self.subTest(call=call):
                        self.assertNotEqual(behind(BEFORE, [call]), [[-1]])

    def test_every_call_with_numbers_is_looked_at(self):
        self.assertEqual({place for place, numbers, ranges in CALLS}, set(range(1, 21)) - {16})

    def test_beyond_the_ends_is_out_of_range(self):
        for place, numbers, ranges in CALLS:
            for at, (least, most) in enumerate(ranges):
                for number in (least - 1, most + 1, -HUGE, HUGE, -HUGE + 1, HUGE - 1):
                    call = with_number(place, numbers, at, number)
                    with self.subTest(call=call):
                        self.assertEqual(behind(BEFORE, [call]), [[-1]])

    def test_out_of_range_changes_nothing(self):
        wrong = []
        for place, numbers, ranges in CALLS:
            for at, (least, most) in enumerate(ranges):
                wrong.append(with_number(place, numbers, at, least - 1))
                wrong.append(with_number(place, numbers, at, most + 1))
        self.assertEqual(behind(BEFORE + wrong, probe(3, 2)), behind(BEFORE, probe(3, 2)))

    def test_there_is_no_medicine_at_the_beginning(self):
        for call in ([2, 0, 0], [3, 0, 0, 1], [4, 0, 0, 0, 1], [6, 0, 0, 0, 1], [7, 0, 0, 1, 0],
                     [8, 0, 0, 1, 1, 0], [9, 0, 0, 0], [10, 0, 0, 0], [15, 0], [18, 0, 0], [19, 0, 0, 1, 1, 0]):
            self.assertEqual(ask(party(4, 70), call), [[0], [-1]])

    def test_there_is_no_dose_at_the_beginning(self):
        self.assertEqual(ask(party(4, 70), medicine(), [5, 0]), [[0], [0], [-1]])

    def test_there_is_no_illness_at_the_beginning(self):
        self.assertEqual(ask(party(4, 70), [20, 0]), [[0], [-1]])

    def test_the_end_of_an_illness_hangs_on_its_beginning(self):
        for begin in (0, 1, 500, 2398, 2399):
            for till in (begin - 1, begin, begin + 1, 2400, 2401):
                told = behind(BEFORE, [ill(0, begin, till)])
                self.assertEqual(told, [[3]] if begin < till <= 2400 else [[-1]], (begin, till))
        for begin, till in ((-1, 5), (-1, 0), (2400, 2401), (2400, 2400), (-HUGE, HUGE), (HUGE, HUGE), (-HUGE, -HUGE),
                            (0, HUGE), (-HUGE, 5), (HUGE, 5), (5, -HUGE)):
            self.assertEqual(behind(BEFORE, [ill(0, begin, till)]), [[-1]], (begin, till))

    def test_the_last_of_the_watches_hangs_on_the_first(self):
        for a in (0, 1, 100, 198, 199):
            for b in (a - 1, a, a + 1, 199, 200):
                told = behind(BEFORE, [watches(a, b)])[0]
                self.assertEqual(told[0], b - a + 1 if a <= b <= 199 else -1, (a, b))
                self.assertEqual(len(told), b - a + 2 if a <= b <= 199 else 1, (a, b))
        for a, b in ((-1, 5), (-1, -1), (200, 200), (200, 199), (-HUGE, HUGE), (HUGE, HUGE), (-HUGE, -HUGE), (0, HUGE),
                     (-HUGE, 5), (HUGE, 5), (5, -HUGE)):
            self.assertEqual(behind(BEFORE, [watches(a, b)]), [[-1]], (a, b))

    def test_watch_ends_one_ahead_of_counts(self):
        found = behind([party(1, 70)], [watch(199), watch(200), counts(199), counts(200), counts(201)])
        self.assertEqual(found, [[0], [-1], [199], [200], [-1]])

    def test_a_watch_out_of_range_and_one_that_nobody_stands_are_both_told_by_minus_1(self):
        found = behind([party(1, 70), ill(0, 0, 1)], [watch(-1), watch(0), watch(1), watches(0, 0), watches(0, 200)])
        self.assertEqual(found, [[-1], [-1], [0], [1, -1], [-1]])

    def test_every_person_of_six(self):
        for people in range(1, 7):
            before = [party(4, *[70] * people), medicine()]
            for p in range(-1, 8):
                asked = [ill(p, 0, 1), fit(p, 0), [18, p, 0], [19, p, 0, 1, 1, 0]]
                found = [answer == [-1] for answer in behind(before, asked)]
                self.assertEqual(found, [not 0 <= p < people] * 4, (people, p))

    def test_out_of_range_goes_ahead_of_full(self):
        medicines = [party(4, 70)] + [medicine()] * 8
        self.assertEqual(behind(medicines, [medicine(unit=0), medicine(spoilt=2401), medicine()]), [[-1], [-1], [-8]])
        clashes = [party(4, 70), medicine(), medicine()] + [clash(0, 1, 1)] * 30
        self.assertEqual(behind(clashes, [clash(0, 2, 1), clash(0, 1, 0), clash(0, 1, 73), clash(0, 1, 1)]),
                         [[-1], [-1], [-1], [-8]])
        doses = [party(4, 70), medicine()] + [give(0, 0, t, 1) for t in range(60)]
        self.assertEqual(behind(doses, [give(1, 0, 99, 1), give(0, 1, 99, 1), give(0, 0, 2400, 1), give(0, 0, 99, 0),
                                        give(0, 0, 99, 11), give(0, 0, 99, 1)]), [[-1]] * 5 + [[-8]])
        self.assertEqual(behind(doses, [treat(1, 0, 1, 1, 99), treat(0, 1, 1, 1, 99), treat(0, 0, 0, 1, 99),
                                        treat(0, 0, 11, 1, 99), treat(0, 0, 1, 0, 99), treat(0, 0, 1, 21, 99),
                                        treat(0, 0, 1, 1, 2400), treat(0, 0, 1, 1, 99)]), [[-1]] * 7 + [[-8]])
        illnesses = [party(4, 70)] + [ill(0, 0, 5)] * 30
        self.assertEqual(behind(illnesses, [ill(1, 0, 5), ill(0, 5, 5), ill(0, 2399, 2401), ill(0, -1, 5), ill(0, 0, 5)]),
                         [[-1]] * 4 + [[-8]])

    def test_out_of_range_goes_ahead_of_what_else_is_due(self):
        before = [party(4, 70), medicine(spoilt=0), medicine(), allergy(0, 0), give(0, 1, 0, 1)]
        self.assertEqual(behind(before, [allergy(0, 0), allergy(1, 0), allergy(0, 1), allergy(1, 1)]),
                         [[-4], [-1], [-7], [-1]])
        self.assertEqual(behind(before, [clash(0, 0, 1), clash(0, 0, 0), clash(2, 2, 5)]), [[-4], [-1], [-1]])
        self.assertEqual(behind(before, [give(0, 0, 0, 1), give(0, 0, 2400, 1), give(0, 0, 0, 11)]),
                         [[-11], [-1], [-1]])
        self.assertEqual(behind(before, [[7, 0, 0, 1, 0], [7, 0, 0, 11, 0], [8, 0, 0, 1, 2, 0], [8, 0, 0, 1, 21, 0]]),
                         [[-6], [-1], [-6], [-1]])
        self.assertEqual(behind(before, [[19, 0, 0, 1, 2, 0], [19, 0, 0, 1, 21, 0], [19, 0, 0, 1, 2, 2400]]),
                         [[-6], [-1], [-1]])


if __name__ == "__main__":
    unittest.main()
