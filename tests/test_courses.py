"""The earliest hour, courses, room, and what was taken (promises 7 to 10)."""

import itertools
import unittest

from tests.helper import (
    allergy, ask, behind, clash, course, earliest, give, last, medicine, party, probe, retract, room, taken, why,
)


class Earliest(unittest.TestCase):
    def test_the_told_hour_if_it_may_be_given_then(self):
        before = [party(4, 70), medicine()]
        self.assertEqual(behind(before, [earliest(0, 0, 10, t) for t in (0, 1, 77, 2399)]), [[0], [1], [77], [2399]])

    def test_behind_the_gap(self):
        before = [party(4, 70), medicine(1, 6), give(0, 0, 10, 1), give(0, 0, 20, 1)]
        self.assertEqual(behind(before, [earliest(0, 0, 1, t) for t in (0, 4, 5, 10, 14, 20, 26, 27)]),
                         [[0], [4], [26], [26], [26], [26], [26], [27]])

    def test_between_two_doses(self):
        before = [party(4, 70), medicine(1, 6), give(0, 0, 10, 1), give(0, 0, 22, 1)]
        self.assertEqual(behind(before, [earliest(0, 0, 1, 5), earliest(0, 0, 1, 17)]), [[16], [28]])

    def test_behind_a_clash(self):
        before = [party(4, 70), medicine(), medicine(), clash(1, 0, 30), give(0, 1, 40, 1), give(0, 1, 90, 1)]
        self.assertEqual(behind(before, [earliest(0, 0, 1, t) for t in (10, 11, 70, 120)]),
                         [[10], [120], [120], [120]])

    def test_behind_full_24_hours(self):
        before = [party(4, 70), medicine(100, 2, 400), give(0, 0, 10, 2), give(0, 0, 20, 2)]
        self.assertEqual(behind(before, [earliest(0, 0, u, 5) for u in (1, 2, 3, 4)]), [[34], [34], [44], [44]])
        self.assertEqual(behind(before, [earliest(0, 0, u, 0) for u in (1, 2, 3)]), [[34], [34], [44]])

    def test_full_24_hours_that_begin_with_the_told_hour(self):
        before = [party(4, 70), medicine(100, 1, 400), give(0, 0, 50, 4)]
        self.assertEqual(behind(before, [earliest(0, 0, 1, t) for t in (26, 27, 49, 51, 73, 74)]),
                         [[26], [74], [74], [74], [74], [74]])

    def test_no_hour(self):
        self.assertEqual(last(party(4, 70), medicine(), allergy(0, 0), earliest(0, 0, 1, 0)), [-6])
        self.assertEqual(last(party(4, 70), medicine(spoilt=0), earliest(0, 0, 1, 0)), [-6])
        self.assertEqual(last(party(4, 70), medicine(stock=4), earliest(0, 0, 5, 0)), [-6])
        self.assertEqual(last(party(4, 70), medicine(100, 1, 499), earliest(0, 0, 5, 0)), [-6])
        self.assertEqual(last(party(4, 70), medicine(1, 9), give(0, 0, 2391, 1), earliest(0, 0, 1, 2383)), [-6])

    def test_up_to_the_last_hour(self):
        before = [party(4, 70), medicine(1, 9), give(0, 0, 2390, 1)]
        self.assertEqual(behind(before, [earliest(0, 0, 1, 2382), earliest(0, 0, 1, 2399)]), [[2399], [2399]])

    def test_up_to_the_hour_before_it_is_spoilt(self):
        before = [party(4, 70), medicine(1, 9, spoilt=100), give(0, 0, 90, 1)]
        self.assertEqual(behind(before, [earliest(0, 0, 1, 82), earliest(0, 0, 1, 99), earliest(0, 0, 1, 100)]),
                         [[99], [99], [-6]])
        before = [party(4, 70), medicine(1, 9, spoilt=100), give(0, 0, 91, 1)]
        self.assertEqual(behind(before, [earliest(0, 0, 1, 82), earliest(0, 0, 1, 83)]), [[82], [-6]])

    def test_it_may_be_given_then_and_at_no_hour_before(self):
        before = [party(4, 50), medicine(100, 3, 700, 12), medicine(), clash(0, 1, 7), give(0, 0, 30, 3),
                  give(0, 1, 44, 1), give(0, 0, 60, 2), give(0, 0, 52, 3)]
        for u in (1, 2, 4, 6):
            may = [found[0] == 0 for found in behind(before, [why(0, 0, t, u) for t in range(150)])]
            for t in range(0, 140, 3):
                self.assertEqual(behind(before, [earliest(0, 0, u, t)]), [[may.index(True, t)]])


class Course(unittest.TestCase):
    def test_a_gap_apart(self):
        self.assertEqual(last(party(4, 70), medicine(1, 8), course(0, 0, 1, 5, 3)), [5, 3, 11, 19, 27, 35])

    def test_held_up_by_the_limit(self):
        self.assertEqual(last(party(4, 70), medicine(500, 4, 1500), course(0, 0, 1, 7, 0)), [7, 0, 4, 8, 24, 28, 32, 48])

    def test_one_dose_is_the_earliest(self):
        before = [party(4, 70), medicine(1, 6), give(0, 0, 10, 1)]
        self.assertEqual(behind(before, [course(0, 0, 1, 1, 7), earliest(0, 0, 1, 7)]), [[1, 16], [16]])

    def test_twenty_doses(self):
        self.assertEqual(last(party(4, 70), medicine(1, 48), course(0, 0, 1, 20, 0)),
                         [20] + [48 * n for n in range(20)])

    def test_round_doses_that_are_written_down(self):
        before = [party(4, 70), medicine(1, 6), medicine(), clash(0, 1, 4), give(0, 0, 20, 1), give(0, 1, 9, 1)]
        self.assertEqual(behind(before, [course(0, 0, 1, 4, 0), course(0, 0, 1, 3, 6)]),
                         [[4, 0, 13, 26, 32], [3, 13, 26, 32]])

    def test_some_dose_of_it_has_no_hour(self):
        before = [party(4, 70), medicine(1, 10)]
        self.assertEqual(behind(before, [course(0, 0, 1, 3, 2379), course(0, 0, 1, 3, 2380), course(0, 0, 1, 4, 2379)]),
                         [[3, 2379, 2389, 2399], [-6], [-6]])

    def test_its_own_doses_are_taken_from_the_stock(self):
        before = [party(4, 70), medicine(1, 10, stock=9), give(0, 0, 2000, 1)]
        self.assertEqual(behind(before, [course(0, 0, 2, 4, 0), course(0, 0, 2, 5, 0), course(0, 0, 3, 3, 0)]),
                         [[4, 0, 10, 20, 30], [-6], [-6]])

    def test_spoilt_on_the_way(self):
        before = [party(4, 70), medicine(1, 10, spoilt=31)]
        self.assertEqual(behind(before, [course(0, 0, 1, 4, 0), course(0, 0, 1, 4, 1), course(0, 0, 1, 5, 0)]),
                         [[4, 0, 10, 20, 30], [-6], [-6]])

    def test_no_hour_at_all(self):
        self.assertEqual(last(party(4, 70), medicine(), allergy(0, 0), course(0, 0, 1, 1, 0)), [-6])
        self.assertEqual(last(party(4, 70), medicine(100, 1, 99), course(0, 0, 1, 1, 0)), [-6])

    def test_its_doses_given_one_by_one_are_all_accepted(self):
        before = [party(4, 50), medicine(100, 3, 700, 12), medicine(), clash(0, 1, 7), give(0, 0, 30, 3),
                  give(0, 1, 44, 1), give(0, 0, 60, 2)]
        hours = behind(before, [course(0, 0, 2, 12, 10)])[0][1:]
        self.assertEqual(behind(before, [give(0, 0, t, 2) for t in hours]), [[n] for n in range(3, 15)])

    def test_no_other_course_has_a_dose_earlier(self):
        before = [party(4, 50), medicine(100, 3, 500), medicine(), clash(0, 1, 4), give(0, 0, 12, 2), give(0, 1, 4, 1)]
        told = behind(before, [course(0, 0, 1, 4, 0)])[0][1:]
        tried = 0
        for hours in itertools.combinations(range(0, 34, 3), 4):
            found = behind(before, [give(0, 0, t, 1) for t in hours])
            if all(answer[0] >= 0 for answer in found):
                tried += 1
                self.assertTrue(all(mine <= other for mine, other in zip(told, hours)), (told, hours))
        self.assertGreater(tried, 10)

    def test_a_refusal_changes_nothing(self):
        before = [party(4, 70), medicine(1, 10, stock=9), give(0, 0, 2000, 1)]
        wrong = [course(0, 0, 2, 5, 0), earliest(0, 0, 9, 0)]
        self.assertEqual(behind(before, wrong), [[-6], [-6]])
        self.assertEqual(behind(before + wrong, probe(1, 1)), behind(before, probe(1, 1)))


class Room(unittest.TestCase):
    def test_up_to_10(self):
        self.assertEqual(last(party(4, 70), medicine(1, 1, 10000), room(0, 0, 0)), [10])
        self.assertEqual(last(party(4, 70), medicine(1, 1, 10000), room(0, 0, 2399)), [10])

    def test_by_the_stock(self):
        before = [party(4, 70, 80), medicine(1, 1, stock=12), give(1, 0, 500, 3)]
        self.assertEqual(behind(before, [room(0, 0, 0), give(0, 0, 0, 9), room(0, 0, 50)]), [[9], [1], [0]])

    def test_by_the_limit(self):
        before = [party(4, 70), medicine(100, 2, 799), give(0, 0, 50, 3)]
        self.assertEqual(behind(before, [room(0, 0, t) for t in (26, 27, 48, 52, 73, 74)]), [[7], [4], [4], [4], [4], [7]])
        self.assertEqual(last(party(4, 30), medicine(100, 2, 799, 20), room(0, 0, 0)), [6])

    def test_none(self):
        before = [party(4, 70), medicine(1, 5, spoilt=100), medicine(), medicine(), clash(0, 1, 3), allergy(0, 2),
                  give(0, 0, 50, 1), give(0, 1, 70, 1)]
        self.assertEqual(behind(before, [room(0, 0, 54), room(0, 0, 55), room(0, 0, 72), room(0, 0, 73),
                                         room(0, 0, 99), room(0, 0, 100), room(0, 2, 0)]),
                         [[0], [10], [0], [10], [10], [0], [0]])

    def test_so_many_may_be_given_and_no_more(self):
        before = [party(4, 50, 60), medicine(130, 3, 1200, 20, stock=17), give(0, 0, 30, 3), give(1, 0, 20, 4),
                  give(0, 0, 60, 2)]
        for t in range(0, 100, 5):
            most = behind(before, [room(0, 0, t)])[0][0]
            may = [found[0] == 0 for found in behind(before, [why(0, 0, t, u) for u in range(1, 11)])]
            self.assertEqual(may, [u <= most for u in range(1, 11)])


class Taken(unittest.TestCase):
    def test_the_24_hours_that_end_with_that_hour(self):
        before = [party(4, 70), medicine(10, 1, 900), give(0, 0, 100, 3)]
        self.assertEqual(behind(before, [taken(0, 0, t) for t in (99, 100, 123, 124)]),
                         [[0, 900], [30, 900], [30, 900], [0, 900]])

    def test_at_the_first_and_the_last_hour(self):
        before = [party(4, 70), medicine(10, 1, 900), give(0, 0, 0, 3), give(0, 0, 2399, 4), give(0, 0, 2376, 5)]
        self.assertEqual(behind(before, [taken(0, 0, t) for t in (0, 23, 24, 2398, 2399)]),
                         [[30, 900], [30, 900], [0, 900], [50, 900], [90, 900]])

    def test_all_doses_of_it(self):
        before = [party(4, 70, 80), medicine(10, 1, 900), medicine(7, 1, 600), give(0, 0, 110, 3), give(0, 0, 100, 1),
                  give(1, 0, 105, 5), give(0, 1, 105, 2), give(0, 0, 105, 2)]
        asked = [taken(0, 0, 123), taken(0, 0, 124), taken(0, 0, 109), taken(1, 0, 110), taken(0, 1, 110)]
        self.assertEqual(behind(before, asked), [[60, 900], [50, 900], [30, 900], [50, 900], [14, 600]])

    def test_what_is_retracted_is_not_taken(self):
        before = [party(4, 70), medicine(10, 1, 900), give(0, 0, 100, 3), give(0, 0, 101, 4)]
        self.assertEqual(behind(before, [taken(0, 0, 101), retract(0), taken(0, 0, 101)]),
                         [[70, 900], [1], [40, 900]])

    def test_for_somebody_allergic_and_when_it_is_spoilt(self):
        before = [party(4, 70), medicine(10, 1, 900, spoilt=0), allergy(0, 0)]
        self.assertEqual(behind(before, [taken(0, 0, 5)]), [[0, 900]])

    def test_the_greatest_there_can_be(self):
        found = ask(party(4, 150), medicine(1000, 1, 10000, 200), give(0, 0, 9, 10), taken(0, 0, 9), room(0, 0, 10))
        self.assertEqual(found[2:], [[0], [10000, 10000], [0]])


if __name__ == "__main__":
    unittest.main()
