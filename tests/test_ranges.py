"""Every number of every call at both ends of its range, one beyond them, and as great as may be."""

import unittest

from tests.helper import HUGE, allergy, ask, behind, clash, give, medicine, party, probe

# Three people, two medicines, two doses.
BEFORE = [
    party(4, 70, 80, 90), medicine(10, 2, 9000, 0, 0, 500, 2400), medicine(20, 3, 9000, 0, 0, 500, 2400),
    give(0, 0, 1000, 1), give(1, 1, 1000, 2),
]

# The place, some numbers that are as told, and each number's range.
CALLS = [
    (1, (500, 6, 4000, 50, 2, 100, 2000),
     ((1, 1000), (1, 48), (1, 10000), (0, 200), (0, 24), (0, 500), (0, 2400))),
    (2, (2, 0), ((0, 2), (0, 1))),
    (3, (0, 1, 5), ((0, 1), (0, 1), (1, 72))),
    (4, (0, 0, 50, 1), ((0, 2), (0, 1), (0, 2399), (1, 10))),
    (5, (0,), ((0, 1),)),
    (6, (0, 0, 50, 1), ((0, 2), (0, 1), (0, 2399), (1, 10))),
    (7, (0, 0, 1, 50), ((0, 2), (0, 1), (1, 10), (0, 2399))),
    (8, (0, 0, 1, 1, 50), ((0, 2), (0, 1), (1, 10), (1, 20), (0, 2399))),
    (9, (0, 0, 50), ((0, 2), (0, 1), (0, 2399))),
    (10, (0, 0, 50), ((0, 2), (0, 1), (0, 2399))),
]


def with_number(place, numbers, at, number):
    changed = list(numbers)
    changed[at] = number
    return [place] + changed


class Ranges(unittest.TestCase):
    def test_both_ends_are_as_told(self):
        for place, numbers, ranges in CALLS:
            for at, ends in enumerate(ranges):
                for number in ends:
                    call = with_number(place, numbers, at, number)
                    with self.subTest(call=call):
                        self.assertNotEqual(behind(BEFORE, [call]), [[-1]])

    def test_beyond_the_ends_is_out_of_range(self):
        for place, numbers, ranges in CALLS:
            for at, (least, most) in enumerate(ranges):
                for number in (least - 1, most + 1, -HUGE, HUGE, -HUGE + 1, HUGE - 1):
                    call = with_number(place, numbers, at, number)
                    with self.subTest(call=call):
                        self.assertEqual(behind(BEFORE, [call]), [[-1]])

    def test_out_of_range_changes_nothing(self):
        wrong = []
        for place, numbers, ranges in CALLS:
            for at, (least, most) in enumerate(ranges):
                wrong.append(with_number(place, numbers, at, least - 1))
                wrong.append(with_number(place, numbers, at, most + 1))
        self.assertEqual(behind(BEFORE + wrong, probe(3, 2)), behind(BEFORE, probe(3, 2)))

    def test_there_is_no_medicine_at_the_beginning(self):
        for call in ([2, 0, 0], [3, 0, 0, 1], [4, 0, 0, 0, 1], [6, 0, 0, 0, 1], [7, 0, 0, 1, 0],
                     [8, 0, 0, 1, 1, 0], [9, 0, 0, 0], [10, 0, 0, 0]):
            self.assertEqual(ask(party(4, 70), call), [[0], [-1]])

    def test_there_is_no_dose_at_the_beginning(self):
        self.assertEqual(ask(party(4, 70), medicine(), [5, 0]), [[0], [0], [-1]])

    def test_out_of_range_goes_ahead_of_full(self):
        medicines = [party(4, 70)] + [medicine()] * 8
        self.assertEqual(behind(medicines, [medicine(unit=0), medicine(spoilt=2401), medicine()]), [[-1], [-1], [-8]])
        clashes = [party(4, 70), medicine(), medicine()] + [clash(0, 1, 1)] * 30
        self.assertEqual(behind(clashes, [clash(0, 2, 1), clash(0, 1, 0), clash(0, 1, 73), clash(0, 1, 1)]),
                         [[-1], [-1], [-1], [-8]])
        doses = [party(4, 70), medicine()] + [give(0, 0, t, 1) for t in range(60)]
        self.assertEqual(behind(doses, [give(1, 0, 99, 1), give(0, 1, 99, 1), give(0, 0, 2400, 1), give(0, 0, 99, 0),
                                        give(0, 0, 99, 11), give(0, 0, 99, 1)]), [[-1]] * 5 + [[-8]])

    def test_out_of_range_goes_ahead_of_what_else_is_due(self):
        before = [party(4, 70), medicine(spoilt=0), medicine(), allergy(0, 0), give(0, 1, 0, 1)]
        self.assertEqual(behind(before, [allergy(0, 0), allergy(1, 0), allergy(0, 1), allergy(1, 1)]),
                         [[-4], [-1], [-7], [-1]])
        self.assertEqual(behind(before, [clash(0, 0, 1), clash(0, 0, 0), clash(2, 2, 5)]), [[-4], [-1], [-1]])
        self.assertEqual(behind(before, [give(0, 0, 0, 1), give(0, 0, 2400, 1), give(0, 0, 0, 11)]),
                         [[-11], [-1], [-1]])
        self.assertEqual(behind(before, [[7, 0, 0, 1, 0], [7, 0, 0, 11, 0], [8, 0, 0, 1, 2, 0], [8, 0, 0, 1, 21, 0]]),
                         [[-6], [-1], [-6], [-1]])


if __name__ == "__main__":
    unittest.main()
