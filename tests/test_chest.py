"""Medicines, allergies and clashes (promises 1 to 3)."""

import unittest

from tests.helper import (
    allergy, ask, behind, clash, earliest, give, last, medicine, party, probe, retract, room, taken, why,
)


class Medicines(unittest.TestCase):
    def test_eight_and_a_ninth(self):
        found = ask(party(4, 70), *[medicine()] * 10)
        self.assertEqual(found[1:], [[n] for n in range(8)] + [[-8], [-8]])

    def test_the_ninth_changes_nothing(self):
        before = [party(4, 70, 80)] + [medicine(n + 1, 1, 1000) for n in range(8)]
        ninth = [medicine(999, 40, 7, 1, 24, 1, 1)]
        self.assertEqual(behind(before + ninth, probe(2, 8)), behind(before, probe(2, 8)))

    def test_two_alike_are_two(self):
        self.assertEqual(ask(party(4, 70), medicine(), medicine())[1:], [[0], [1]])

    def test_each_number_is_kept_in_its_place(self):
        before = [party(4, 30), medicine(7, 5, 1000, 3, 4, 9, 77), give(0, 0, 20, 1)]
        self.assertEqual(behind(before, [taken(0, 0, 20), why(0, 0, 24, 1), why(0, 0, 25, 1), why(0, 0, 25, 9),
                                         why(0, 0, 76, 8), why(0, 0, 77, 8)]),
                         [[7, 90], [4, 1], [0, 0], [3, 0], [0, 0], [2, 0]])


class Limit(unittest.TestCase):
    def limit(self, weight, cap, for_a_kilogram):
        return last(party(4, weight), medicine(1, 1, cap, for_a_kilogram), taken(0, 0, 0))[1]

    def test_by_the_cap_where_nothing_is_told_for_a_kilogram(self):
        self.assertEqual(self.limit(30, 10000, 0), 10000)
        self.assertEqual(self.limit(150, 1, 0), 1)

    def test_by_the_weight_if_that_is_less(self):
        self.assertEqual(self.limit(70, 4000, 50), 3500)
        self.assertEqual(self.limit(30, 10000, 1), 30)
        self.assertEqual(self.limit(79, 4000, 50), 3950)

    def test_by_the_cap_if_the_weight_is_not_less(self):
        self.assertEqual(self.limit(80, 4000, 50), 4000)
        self.assertEqual(self.limit(81, 4000, 50), 4000)
        self.assertEqual(self.limit(150, 10000, 200), 10000)

    def test_each_person_has_their_own(self):
        found = ask(party(4, 70, 80, 90, 30), medicine(1, 1, 4000, 50), *[taken(p, 0, 0) for p in range(4)])
        self.assertEqual(found[2:], [[0, 3500], [0, 4000], [0, 4000], [0, 1500]])

    def test_a_dose_is_held_to_the_limit_by_the_weight(self):
        before = [party(4, 70, 80), medicine(500, 1, 4000, 50)]
        self.assertEqual(behind(before, [why(0, 0, 0, 7), why(0, 0, 0, 8), why(1, 0, 0, 8), why(1, 0, 0, 9)]),
                         [[0, 0], [6, 0], [0, 0], [6, 0]])


class Allergies(unittest.TestCase):
    before = [party(4, 70, 80), medicine(), medicine(), give(0, 0, 5, 1)]

    def test_it_answers_how_many_there_are(self):
        self.assertEqual(behind(self.before, [allergy(1, 0), allergy(0, 1), allergy(1, 1)]), [[1], [2], [3]])

    def test_told_already(self):
        self.assertEqual(behind(self.before, [allergy(1, 0), allergy(1, 0), allergy(1, 1), allergy(1, 0)]),
                         [[1], [-4], [2], [-4]])

    def test_a_dose_of_it_is_written_down(self):
        self.assertEqual(behind(self.before, [allergy(0, 0), allergy(1, 0), allergy(0, 1)]), [[-7], [1], [2]])

    def test_the_dose_is_retracted(self):
        self.assertEqual(behind(self.before, [allergy(0, 0), retract(0), allergy(0, 0)]), [[-7], [0], [1]])

    def test_it_holds_for_that_person_and_that_medicine(self):
        asked = [why(p, m, 9, 1) for p in range(2) for m in range(2)]
        self.assertEqual(behind(self.before + [allergy(1, 0)], asked), [[0, 0], [0, 0], [1, 0], [0, 0]])

    def test_all_that_there_can_be(self):
        before = [party(4, *[70] * 6)] + [medicine()] * 8
        pairs = [allergy(p, m) for p in range(6) for m in range(8)]
        self.assertEqual(behind(before, pairs), [[n + 1] for n in range(48)])
        self.assertEqual(behind(before + pairs, pairs), [[-4]] * 48)

    def test_a_refusal_changes_nothing(self):
        before = self.before + [allergy(1, 0)]
        wrong = [allergy(1, 0), allergy(0, 0)]
        self.assertEqual(behind(before, wrong), [[-4], [-7]])
        self.assertEqual(behind(before + wrong, probe(2, 2)), behind(before, probe(2, 2)))


class Clashes(unittest.TestCase):
    before = [party(4, 70, 80), medicine(), medicine(), medicine()]

    def test_it_answers_how_many_there_are(self):
        self.assertEqual(behind(self.before, [clash(0, 1, 5), clash(1, 2, 5), clash(0, 1, 5), clash(1, 0, 72)]),
                         [[1], [2], [3], [4]])

    def test_the_same_medicine(self):
        self.assertEqual(behind(self.before, [clash(m, m, 1) for m in range(3)]), [[-4]] * 3)

    def test_thirty_and_one_more(self):
        found = behind(self.before, [clash(0, 1, 1 + n) for n in range(32)])
        self.assertEqual(found, [[n + 1] for n in range(30)] + [[-8], [-8]])

    def test_the_one_more_changes_nothing(self):
        before = self.before + [clash(0, 1, 3)] * 30
        self.assertEqual(behind(before + [clash(0, 2, 50), clash(1, 0, 60)], probe(2, 3)), behind(before, probe(2, 3)))
        found = behind(before, [give(0, 0, 10, 1), clash(0, 1, 60), why(0, 1, 13, 1), why(0, 1, 12, 1)])
        self.assertEqual(found, [[0], [-8], [0, 0], [5, 1]])

    def test_the_same_goes_ahead_of_full_and_full_ahead_of_doses_against_it(self):
        before = self.before + [clash(0, 1, 3)] * 30 + [give(0, 0, 10, 1), give(0, 2, 10, 1)]
        self.assertEqual(behind(before, [clash(0, 0, 5), clash(0, 2, 5)]), [[-4], [-8]])

    def test_the_same_goes_ahead_of_doses_against_it(self):
        self.assertEqual(behind(self.before + [give(0, 0, 10, 1)], [clash(0, 0, 5)]), [[-4]])

    def test_doses_less_hours_apart(self):
        for first, second in ((0, 1), (1, 0)):
            for one, other in ((100, 110), (110, 100)):
                before = self.before + [give(0, first, one, 1), give(0, second, other, 1)]
                self.assertEqual(behind(before, [clash(0, 1, 11), clash(0, 1, 10)]), [[-7], [1]])
                self.assertEqual(behind(before, [clash(1, 0, 72), clash(1, 0, 9)]), [[-7], [1]])

    def test_doses_in_the_same_hour(self):
        before = self.before + [give(0, 0, 100, 1), give(0, 1, 100, 1)]
        self.assertEqual(behind(before, [clash(0, 1, 1), clash(0, 2, 1)]), [[-7], [1]])

    def test_doses_of_two_people(self):
        before = self.before + [give(0, 0, 100, 1), give(1, 1, 100, 1)]
        self.assertEqual(behind(before, [clash(0, 1, 72)]), [[1]])

    def test_any_two_doses_may_be_against_it(self):
        before = self.before + [give(0, 0, 0, 1), give(0, 1, 500, 1), give(1, 1, 0, 1), give(0, 0, 900, 1),
                                give(0, 2, 901, 1), give(0, 1, 830, 1)]
        self.assertEqual(behind(before, [clash(1, 0, 71), clash(0, 1, 70)]), [[-7], [1]])

    def test_a_lesser_one_may_follow_a_greater(self):
        before = self.before + [clash(0, 1, 20), give(0, 0, 100, 1), give(0, 1, 120, 1)]
        self.assertEqual(behind(before, [clash(1, 0, 21), clash(1, 0, 20), clash(0, 1, 1)]), [[-7], [2], [3]])

    def test_the_doses_are_retracted(self):
        before = self.before + [give(0, 0, 100, 1), give(0, 1, 100, 1)]
        self.assertEqual(behind(before, [clash(0, 1, 5), retract(0), clash(0, 1, 5)]), [[-7], [1], [1]])

    def test_a_refusal_changes_nothing(self):
        before = self.before + [clash(0, 1, 4), give(0, 0, 10, 1), give(0, 1, 24, 1)]
        wrong = [clash(0, 0, 9), clash(2, 2, 9), clash(0, 1, 15), clash(1, 0, 72)]
        self.assertEqual(behind(before, wrong), [[-4], [-4], [-7], [-7]])
        self.assertEqual(behind(before + wrong, probe(2, 3)), behind(before, probe(2, 3)))

    def test_of_several_for_the_same_two_the_greatest_counts(self):
        for told in ((clash(0, 1, 5), clash(0, 1, 9), clash(0, 1, 3)), (clash(0, 1, 9), clash(1, 0, 5)),
                     (clash(1, 0, 9), clash(0, 1, 2), clash(1, 0, 8)), (clash(0, 1, 2), clash(1, 0, 9))):
            for given, asked in ((0, 1), (1, 0)):
                before = self.before + list(told) + [give(0, given, 100, 1)]
                hours = (91, 92, 100, 108, 109)
                self.assertEqual(behind(before, [why(0, asked, t, 1) for t in hours]),
                                 [[0, 0], [5, 1], [5, 1], [5, 1], [0, 0]])
                self.assertEqual(behind(before, [earliest(0, asked, 1, 92), room(0, asked, 108), room(0, asked, 109)]),
                                 [[109], [0], [10]])

    def test_it_holds_for_these_two_alone(self):
        before = self.before + [clash(0, 1, 9), clash(1, 2, 4), give(0, 0, 100, 1), give(0, 1, 200, 1)]
        self.assertEqual(behind(before, [why(0, 2, 100, 1), why(0, 2, 197, 1), why(0, 2, 196, 1), why(1, 1, 100, 1)]),
                         [[0, 0], [5, 2], [0, 0], [0, 0]])


if __name__ == "__main__":
    unittest.main()
