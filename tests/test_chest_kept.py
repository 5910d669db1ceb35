"""What is left, the log, the worst day and treatments (promises 6, 15, 18 and 19)."""

import unittest

from tests.helper import (
    allergy, ask, behind, clash, course, earliest, fit, give, last, left, log, medicine, party, probe, retract, room,
    taken, treat, watches, why, worst,
)


class Left(unittest.TestCase):
    before = [party(4, 70, 80), medicine(stock=20), medicine(stock=9), medicine(stock=0), medicine(stock=500)]

    def test_the_stock_where_nothing_is_written_down(self):
        self.assertEqual(behind(self.before, [left(m) for m in range(4)]), [[20], [9], [0], [500]])

    def test_less_all_units_of_it_whenever_and_for_whomever(self):
        before = self.before + [give(0, 0, 5, 3), give(1, 0, 2000, 4), give(0, 1, 7, 9), give(0, 0, 1, 1)]
        self.assertEqual(behind(before, [left(m) for m in range(4)]), [[12], [0], [0], [500]])

    def test_less_what_treat_wrote_down(self):
        found = behind(self.before, [treat(0, 0, 3, 4, 0), left(0), treat(1, 0, 4, 2, 0), left(0), left(1)])
        self.assertEqual(found[1::2], [[8], [0]])
        self.assertEqual(found[4], [9])

    def test_what_is_retracted_is_left_again(self):
        found = behind(self.before, [give(0, 0, 5, 3), give(1, 0, 9, 4), left(0), retract(0), left(0), retract(0), left(0)])
        self.assertEqual(found[2::2], [[13], [16], [20]])

    def test_refused_doses_and_courses_only_asked_for_take_nothing(self):
        found = behind(self.before, [give(0, 1, 5, 10), treat(0, 1, 5, 2, 0), course(0, 1, 3, 3, 0), room(0, 1, 0), left(1)])
        self.assertEqual(found, [[-13], [-6], [3, 0, 1, 2], [9], [9]])

    def test_spoilt_medicine_is_left_too(self):
        self.assertEqual(last(party(4, 70), medicine(stock=7, spoilt=0), allergy(0, 0), left(0)), [7])


class Log(unittest.TestCase):
    before = [party(4, 70, 80), medicine(gap=6, stock=100), medicine(gap=2)]

    def test_nothing_is_written_down(self):
        self.assertEqual(ask(party(4, 70), log()), [[0], [0]])
        self.assertEqual(behind(self.before, [log()]), [[0]])

    def test_each_dose_in_the_order_of_writing(self):
        before = self.before + [give(0, 1, 50, 3), give(1, 0, 20, 10), give(0, 0, 90, 1), give(0, 1, 0, 2)]
        self.assertEqual(behind(before, [log()]), [[4, 0, 1, 50, 3, 1, 0, 20, 10, 0, 0, 90, 1, 0, 1, 0, 2]])

    def test_the_first_and_the_last_hour(self):
        before = self.before + [give(1, 1, 2399, 10), give(1, 1, 0, 1)]
        self.assertEqual(behind(before, [log()]), [[2, 1, 1, 2399, 10, 1, 1, 0, 1]])

    def test_treats_doses_stand_beside_gives(self):
        before = self.before + [give(0, 0, 8, 3), treat(0, 0, 2, 3, 1), give(1, 1, 5, 4), treat(1, 1, 1, 2, 4)]
        self.assertEqual(behind(before, [log()]), [[7, 0, 0, 8, 3, 0, 0, 1, 2, 0, 0, 14, 2, 0, 0, 20, 2, 1, 1, 5, 4,
                                                     1, 1, 7, 1, 1, 1, 9, 1]])

    def test_what_is_retracted_is_not_there(self):
        before = self.before + [give(0, 1, 50, 3), give(1, 0, 20, 1), give(0, 0, 90, 2)]
        self.assertEqual(behind(before + [retract(1)], [log()]), [[2, 0, 1, 50, 3, 0, 0, 90, 2]])
        self.assertEqual(behind(before + [retract(0)], [log()]), [[2, 1, 0, 20, 1, 0, 0, 90, 2]])
        self.assertEqual(behind(before + [retract(2), give(1, 1, 7, 7)], [log()]),
                         [[3, 0, 1, 50, 3, 1, 0, 20, 1, 1, 1, 7, 7]])

    def test_sixty_doses(self):
        before = self.before + [give(0, 1, 2 * n, 1 + n % 3) for n in range(60)]
        told = [60]
        for n in range(60):
            told += [0, 1, 2 * n, 1 + n % 3]
        self.assertEqual(behind(before, [log()]), [told])

    def test_refused_doses_are_not_there(self):
        before = self.before + [give(0, 0, 50, 3)]
        wrong = [give(0, 0, 52, 1), give(0, 0, 2400, 1), treat(0, 0, 10, 20, 0), treat(0, 0, 1, 0, 0)]
        self.assertEqual(behind(before, wrong + [log()]), [[-14], [-1], [-6], [-1], [1, 0, 0, 50, 3]])


class Worst(unittest.TestCase):
    def test_nothing(self):
        before = [party(4, 70, 80), medicine(10), medicine(20), give(0, 0, 5, 1)]
        self.assertEqual(behind(before, [worst(p, m) for p in range(2) for m in range(2)]), [[10], [0], [0], [0]])

    def test_one_dose(self):
        for hour in (0, 23, 24, 1000, 2376, 2399):
            self.assertEqual(last(party(4, 70), medicine(10), give(0, 0, hour, 7), worst(0, 0)), [70])

    def test_two_doses_23_and_24_hours_apart(self):
        for first in (0, 1, 100, 2375):
            for one, other in ((0, 1), (1, 0)):
                hours = [first, first + 23]
                before = [party(4, 70), medicine(10), give(0, 0, hours[one], 3), give(0, 0, hours[other], 4)]
                self.assertEqual(behind(before, [worst(0, 0)]), [[70]])
                hours = [first, first + 24]
                before = [party(4, 70), medicine(10), give(0, 0, hours[one], 3), give(0, 0, hours[other], 4)]
                self.assertEqual(behind(before, [worst(0, 0)]), [[40]])

    def test_the_most_of_any(self):
        before = [party(4, 70), medicine(10), give(0, 0, 100, 3), give(0, 0, 300, 2), give(0, 0, 112, 1), give(0, 0, 310, 2),
                  give(0, 0, 323, 5), give(0, 0, 324, 1), give(0, 0, 347, 1)]
        # 300, 310 and 323 are 9 units; 310, 323 and 324 are 8; 323, 324 are 6 with 347 behind them.
        self.assertEqual(behind(before, [worst(0, 0), retract(4), worst(0, 0)]), [[90], [6], [40]])

    def test_a_window_that_begins_between(self):
        before = [party(4, 70), medicine(10), give(0, 0, 100, 1), give(0, 0, 110, 4), give(0, 0, 120, 4), give(0, 0, 130, 4),
                  give(0, 0, 140, 1)]
        self.assertEqual(behind(before, [worst(0, 0)]), [[120]])

    def test_each_person_and_each_medicine_for_itself(self):
        before = [party(4, 70, 80), medicine(10), medicine(7), give(0, 0, 10, 1), give(0, 1, 10, 2), give(1, 0, 10, 3),
                  give(1, 1, 10, 4), give(0, 0, 20, 5)]
        self.assertEqual(behind(before, [worst(p, m) for p in range(2) for m in range(2)]), [[60], [14], [30], [28]])

    def test_what_treat_wrote_down(self):
        found = ask(party(4, 70), medicine(10, 8, 400), treat(0, 0, 2, 6, 0), worst(0, 0))
        self.assertEqual(found[2:], [[6, 0, 8, 16, 24, 32, 40], [60]])

    def test_it_never_is_more_than_the_limit(self):
        before = [party(4, 50), medicine(100, 3, 1900, 12), treat(0, 0, 2, 12, 10), give(0, 0, 500, 6)]
        self.assertEqual(behind(before, [worst(0, 0), taken(0, 0, 10)]), [[600], [200, 600]])

    def test_the_greatest_there_can_be(self):
        self.assertEqual(last(party(4, 150), medicine(1000, 1, 10000, 200), give(0, 0, 9, 10), worst(0, 0)), [10000])


class Treat(unittest.TestCase):
    def test_it_answers_as_course(self):
        before = [party(4, 70), medicine(1, 6), medicine(), clash(0, 1, 4), give(0, 0, 20, 1), give(0, 1, 9, 1)]
        for numbers in ((0, 0, 1, 4, 0), (0, 0, 1, 3, 6), (0, 1, 10, 20, 3), (0, 0, 5, 1, 2399), (0, 0, 2, 1, 0)):
            self.assertEqual(behind(before, [treat(*numbers)]), behind(before, [course(*numbers)]))
        self.assertEqual(behind(before, [treat(0, 0, 1, 4, 0)]), [[4, 0, 13, 26, 32]])

    def test_its_doses_are_written_down_as_if_given_one_by_one(self):
        before = [party(4, 50, 60), medicine(100, 3, 700, 12, 5), medicine(drowsy=2), clash(0, 1, 7), give(0, 0, 30, 3),
                  give(0, 1, 44, 1), give(1, 0, 60, 2)]
        for numbers in ((0, 0, 2, 12, 10), (1, 0, 3, 5, 50), (0, 1, 4, 20, 0)):
            person, kind, units, many, first = numbers
            hours = behind(before, [treat(*numbers)])[0][1:]
            self.assertEqual(len(hours), many)
            given = [give(person, kind, t, units) for t in hours]
            self.assertEqual(behind(before, given), [[n] for n in range(3, 3 + many)])
            self.assertEqual(behind(before + [treat(*numbers)], probe(2, 2)), behind(before + given, probe(2, 2)))

    def test_every_later_call_sees_them(self):
        before = [party(4, 70), medicine(10, 6, 300, 0, 3, 40, 2400), medicine(), clash(0, 1, 2), treat(0, 0, 10, 3, 5)]
        asked = [log(), left(0), why(0, 0, 9, 1), why(0, 1, 12, 1), earliest(0, 0, 1, 5), room(0, 0, 28), room(0, 0, 29),
                 taken(0, 0, 17), worst(0, 0), fit(0, 7), fit(0, 8), watches(0, 5), allergy(0, 0), clash(0, 1, 3),
                 give(0, 0, 6, 1), course(0, 0, 10, 1, 0), treat(0, 0, 10, 2, 0), retract(1), room(0, 0, 11), log()]
        self.assertEqual(behind(before, asked), [
            [3, 0, 0, 5, 10, 0, 0, 11, 10, 0, 0, 17, 10], [10], [4, 1], [5, 2], [29], [0], [10],
            [300, 300], [300], [0], [1], [6, 0, -1, -1, -1, -1, 0], [-7], [2],
            [-14], [1, 29], [-6], [2], [10], [2, 0, 0, 5, 10, 0, 0, 17, 10]])

    def test_their_numbers_follow_one_another(self):
        before = [party(4, 70), medicine(1, 10), give(0, 0, 500, 1), treat(0, 0, 1, 3, 0), give(0, 0, 600, 1)]
        asked = [why(0, 0, t, 1) for t in (500, 0, 10, 20, 600)]
        self.assertEqual(behind(before, asked), [[4, 1], [4, 2], [4, 3], [4, 4], [4, 5]])
        self.assertEqual(behind(before + [retract(2)], asked), [[4, 1], [4, 2], [0, 0], [4, 3], [4, 4]])
        self.assertEqual(ask(*before)[-1], [4])

    def test_a_second_treatment_goes_round_the_first(self):
        found = ask(party(4, 70), medicine(1, 4, 300), *[treat(0, 0, 1, 3, 2)] * 2)
        self.assertEqual(found[2:], [[3, 2, 6, 10], [3, 14, 18, 22]])

    def test_one_dose_and_twenty(self):
        found = ask(party(4, 70), medicine(1, 48), treat(0, 0, 1, 1, 0), treat(0, 0, 1, 20, 0))
        self.assertEqual(found[2:], [[1, 0], [20] + [48 * n for n in range(1, 21)]])

    def test_up_to_the_last_hour(self):
        before = [party(4, 70), medicine(1, 10)]
        self.assertEqual(behind(before, [treat(0, 0, 1, 3, 2380), treat(0, 0, 1, 3, 2379), log(), treat(0, 0, 1, 1, 2379)]),
                         [[-6], [3, 2379, 2389, 2399], [3, 0, 0, 2379, 1, 0, 0, 2389, 1, 0, 0, 2399, 1], [-6]])

    def test_just_sixty_doses_and_one_beyond(self):
        before = [party(4, 70), medicine()] + [give(0, 0, t, 1) for t in range(40)]
        self.assertEqual(behind(before, [treat(0, 0, 1, 20, 0), treat(0, 0, 1, 1, 0), give(0, 0, 99, 1)]),
                         [[20] + list(range(40, 60)), [-8], [-8]])
        before = before + [give(0, 0, 40, 1)]
        self.assertEqual(behind(before, [treat(0, 0, 1, 20, 0), treat(0, 0, 1, 19, 0)]),
                         [[-8], [19] + list(range(41, 60))])
        before = before + [treat(0, 0, 1, 18, 0)]
        self.assertEqual(behind(before, [treat(0, 0, 1, 2, 0), treat(0, 0, 1, 1, 0), treat(0, 0, 1, 1, 0)]),
                         [[-8], [1, 59], [-8]])

    def test_three_of_twenty_and_no_fourth(self):
        found = ask(party(4, 70), medicine(), *[treat(0, 0, 1, 20, 0)] * 4, log())
        self.assertEqual(found[4:6], [[20] + list(range(40, 60)), [-8]])
        self.assertEqual(found[6][0], 60)

    def test_full_goes_ahead_of_no_hour(self):
        before = [party(4, 70), medicine(), medicine(spoilt=0), medicine(stock=0), medicine(), allergy(0, 3)]
        before += [give(0, 0, t, 1) for t in range(50)]
        for m in (1, 2, 3):
            self.assertEqual(behind(before, [treat(0, m, 1, 10, 0), treat(0, m, 1, 11, 0)]), [[-6], [-8]])
        self.assertEqual(behind(before, [treat(0, 0, 1, 11, 2395), treat(0, 0, 1, 10, 2395)]), [[-8], [-6]])

    def test_full_is_by_the_doses_there_would_be_and_not_by_those_with_an_hour(self):
        before = [party(4, 70), medicine(stock=55)] + [give(0, 0, t, 1) for t in range(50)]
        self.assertEqual(behind(before, [treat(0, 0, 1, 20, 0), treat(0, 0, 1, 10, 0), treat(0, 0, 1, 5, 0)]),
                         [[-8], [-6], [5, 50, 51, 52, 53, 54]])

    def test_a_course_is_never_full(self):
        before = [party(4, 70), medicine()] + [give(0, 0, t, 1) for t in range(60)]
        self.assertEqual(behind(before, [treat(0, 0, 1, 3, 0), course(0, 0, 1, 3, 0)]), [[-8], [3, 60, 61, 62]])

    def test_room_again_once_some_are_retracted(self):
        before = [party(4, 70), medicine()] + [treat(0, 0, 1, 20, 0)] * 3
        self.assertEqual(behind(before, [retract(0), treat(0, 0, 1, 2, 0), treat(0, 0, 1, 1, 0), retract(59)]),
                         [[59], [-8], [1, 0], [59]])

    def test_some_dose_of_it_has_no_hour(self):
        wrong = {
            "allergic": (medicine(), [allergy(0, 0)]),
            "spoilt": (medicine(1, 10, spoilt=20), []),
            "stock": (medicine(stock=2), []),
            "limit": (medicine(100, 1, 99), []),
        }
        for name, (told, more) in wrong.items():
            before = [party(4, 70), told] + more
            self.assertEqual(behind(before, [treat(0, 0, 1, 3, 0), log(), left(0)])[:2], [[-6], [0]], name)

    def test_a_refusal_changes_nothing(self):
        before = [party(4, 70, 80), medicine(1, 10, stock=9, drowsy=5), medicine(), allergy(1, 1), give(0, 0, 2000, 1)]
        wrong = [treat(0, 0, 2, 5, 0), treat(0, 0, 1, 3, 2390), treat(1, 1, 1, 1, 0), treat(0, 0, 1, 21, 0)]
        self.assertEqual(behind(before, wrong), [[-6], [-6], [-6], [-1]])
        self.assertEqual(behind(before + wrong, probe(2, 2)), behind(before, probe(2, 2)))
        full = [party(4, 70, 80), medicine(drowsy=3), medicine()] + [give(0, 0, t, 1) for t in range(45)]
        wrong = [treat(0, 0, 1, 16, 0), treat(1, 1, 1, 20, 0)]
        self.assertEqual(behind(full, wrong), [[-8], [-8]])
        self.assertEqual(behind(full + wrong, probe(2, 2)), behind(full, probe(2, 2)))

    def test_what_it_wrote_keeps_all_rules(self):
        before = [party(4, 50), medicine(100, 3, 700, 12), medicine(40, 2, 200), clash(0, 1, 5), treat(0, 0, 2, 9, 10),
                  treat(0, 1, 1, 9, 0), give(0, 0, 900, 1)]
        numbers = behind(before, [log()])[0]
        doses = [tuple(numbers[at:at + 4]) for at in range(1, len(numbers), 4)]
        self.assertEqual(len(doses), 19)
        for j, dose in enumerate(doses):
            self.assertEqual(behind(before + [retract(j)], [why(*dose)]), [[0, 0]])

    def test_an_allergy_or_a_clash_against_it_is_refused(self):
        before = [party(4, 70, 80), medicine(), medicine(), treat(0, 0, 1, 2, 10), treat(0, 1, 1, 1, 14)]
        self.assertEqual(behind(before, [allergy(0, 0), allergy(1, 0), clash(0, 1, 4), clash(0, 1, 3)]),
                         [[-7], [1], [-7], [1]])


if __name__ == "__main__":
    unittest.main()
