"""Giving, retracting, and the six reasons why a dose may not be given (promises 4 to 6)."""

import unittest

from tests.helper import (
    allergy, ask, behind, clash, course, earliest, give, last, medicine, party, probe, retract, room, taken, why,
)


class Give(unittest.TestCase):
    def test_it_answers_the_number(self):
        found = ask(party(4, 70, 80), medicine(), medicine(), give(0, 0, 50, 1), give(1, 0, 50, 2), give(0, 1, 3, 3))
        self.assertEqual(found[3:], [[0], [1], [2]])

    def test_it_is_written_down(self):
        before = [party(4, 70, 80), medicine(100), medicine(10), give(0, 0, 50, 3)]
        asked = [taken(p, m, 50) for p in range(2) for m in range(2)]
        self.assertEqual(behind(before, asked), [[300, 10000], [0, 10000], [0, 10000], [0, 10000]])

    def test_sixty_and_one_more(self):
        found = ask(party(4, 70), medicine(), *[give(0, 0, t, 1) for t in range(62)])
        self.assertEqual(found[2:], [[n] for n in range(60)] + [[-8], [-8]])

    def test_full_goes_ahead_of_why_it_may_not_be_given(self):
        before = [party(4, 70), medicine(stock=60), medicine(spoilt=0), medicine(), allergy(0, 2)]
        before += [give(0, 0, t, 1) for t in range(60)]
        self.assertEqual(behind(before, [give(0, 0, 5, 1), give(0, 1, 5, 1), give(0, 2, 5, 1)]), [[-8]] * 3)

    def test_full_is_looked_at_by_give_alone(self):
        before = [party(4, 70), medicine()] + [give(0, 0, t, 1) for t in range(60)]
        self.assertEqual(behind(before, [why(0, 0, 60, 1), earliest(0, 0, 1, 0), course(0, 0, 1, 3, 0), room(0, 0, 60)]),
                         [[0, 0], [60], [3, 60, 61, 62], [10]])

    def test_room_for_one_more_once_one_is_retracted(self):
        before = [party(4, 70), medicine()] + [give(0, 0, t, 1) for t in range(60)]
        self.assertEqual(behind(before, [give(0, 0, 99, 1), retract(7), give(0, 0, 99, 1), give(0, 0, 7, 1)]),
                         [[-8], [59], [59], [-8]])

    def test_the_first_and_the_last_hour(self):
        before = [party(4, 70), medicine(100, 48, 1000)]
        self.assertEqual(behind(before, [give(0, 0, 2399, 10), give(0, 0, 0, 10), why(0, 0, 47, 1), why(0, 0, 48, 10),
                                         why(0, 0, 2351, 10), why(0, 0, 2352, 1)]),
                         [[0], [1], [4, 2], [0, 0], [0, 0], [4, 1]])

    def test_each_reason_is_refused_with_its_number(self):
        before = [party(4, 70), medicine(100, 4, 500, 0, 0, 9, 1000), medicine(), medicine(), allergy(0, 2),
                  clash(0, 1, 3), give(0, 0, 100, 4), give(0, 1, 200, 1)]
        wrong = [give(0, 2, 0, 1), give(0, 0, 1000, 1), give(0, 0, 500, 6), give(0, 0, 103, 1), give(0, 0, 202, 1),
                 give(0, 0, 110, 2)]
        self.assertEqual(behind(before, wrong), [[-11], [-12], [-13], [-14], [-15], [-16]])
        self.assertEqual(behind(before + wrong, probe(1, 3)), behind(before, probe(1, 3)))
        asked = [why(*call[1:]) for call in wrong]
        self.assertEqual(behind(before, asked), [[1, 0], [2, 0], [3, 0], [4, 1], [5, 2], [6, 0]])

    def test_sixty_one_doses_refused_change_nothing(self):
        before = [party(4, 70), medicine()] + [give(0, 0, t, 1) for t in range(60)]
        self.assertEqual(behind(before + [give(0, 0, 99, 1)], probe(1, 1)), behind(before, probe(1, 1)))


class Retract(unittest.TestCase):
    before = [party(4, 70, 80), medicine(100, 5, 10000, 0, 0, 10, 2400), medicine(10), clash(0, 1, 3),
              give(0, 0, 300, 1), give(0, 0, 100, 2), give(0, 0, 200, 3), give(1, 1, 100, 4)]

    def test_it_answers_how_many_there_are(self):
        self.assertEqual(behind(self.before, [retract(3), retract(0), retract(0), retract(0), retract(0)]),
                         [[3], [2], [1], [0], [-1]])

    def test_it_is_there_no_more(self):
        asked = [taken(0, 0, 300), taken(0, 0, 100), taken(0, 0, 200), taken(1, 1, 100)]
        had = [[100], [200], [300], [40]]
        for j in range(4):
            expected = [[0 if n == j else had[n][0], 10000] for n in range(4)]
            self.assertEqual(behind(self.before + [retract(j)], asked), expected)

    def test_those_behind_it_have_numbers_one_less(self):
        asked = [why(0, 0, 300, 1), why(0, 0, 100, 1), why(0, 0, 200, 1)]
        self.assertEqual(behind(self.before, asked), [[4, 1], [4, 2], [4, 3]])
        self.assertEqual(behind(self.before + [retract(1)], asked), [[4, 1], [0, 0], [4, 2]])
        self.assertEqual(behind(self.before + [retract(0)], asked), [[0, 0], [4, 1], [4, 2]])
        self.assertEqual(behind(self.before + [retract(1), retract(1)], asked), [[4, 1], [0, 0], [0, 0]])

    def test_the_next_dose_comes_behind_those_left(self):
        self.assertEqual(behind(self.before, [retract(0), give(0, 0, 300, 1), why(0, 0, 300, 1), why(0, 0, 100, 1)]),
                         [[3], [3], [4, 4], [4, 1]])

    def test_its_units_are_in_stock_again(self):
        self.assertEqual(behind(self.before, [room(1, 0, 0), retract(2), room(1, 0, 0)]), [[4], [3], [7]])

    def test_a_number_that_there_is_not(self):
        self.assertEqual(behind(self.before, [retract(4), retract(-1)]), [[-1], [-1]])
        self.assertEqual(behind(self.before + [retract(4), retract(-1)], probe(2, 2)), behind(self.before, probe(2, 2)))


class Spoilt(unittest.TestCase):
    def test_the_hour_from_which_on_and_the_one_before_it(self):
        before = [party(4, 70), medicine(spoilt=500)]
        self.assertEqual(behind(before, [why(0, 0, t, 1) for t in (0, 499, 500, 501, 2399)]),
                         [[0, 0], [0, 0], [2, 0], [2, 0], [2, 0]])

    def test_always_and_never(self):
        self.assertEqual(last(party(4, 70), medicine(spoilt=0), why(0, 0, 0, 1)), [2, 0])
        self.assertEqual(last(party(4, 70), medicine(spoilt=1), why(0, 0, 0, 1)), [0, 0])
        self.assertEqual(last(party(4, 70), medicine(spoilt=2399), why(0, 0, 2399, 1)), [2, 0])
        self.assertEqual(last(party(4, 70), medicine(spoilt=2400), why(0, 0, 2399, 1)), [0, 0])


class Stock(unittest.TestCase):
    def test_just_used_up(self):
        before = [party(4, 70), medicine(stock=7), give(0, 0, 5, 3)]
        self.assertEqual(behind(before, [why(0, 0, 50, 5), why(0, 0, 50, 4), give(0, 0, 50, 4), why(0, 0, 90, 1)]),
                         [[3, 0], [0, 0], [1], [3, 0]])

    def test_none_at_all(self):
        self.assertEqual(last(party(4, 70), medicine(stock=0), why(0, 0, 0, 1)), [3, 0])

    def test_units_whenever_and_for_whomever(self):
        before = [party(4, 70, 80, 90), medicine(stock=9), give(0, 0, 2000, 3), give(1, 0, 0, 4)]
        self.assertEqual(behind(before, [why(2, 0, 1000, 3), why(2, 0, 1000, 2)]), [[3, 0], [0, 0]])

    def test_units_of_that_medicine_alone(self):
        before = [party(4, 70), medicine(stock=9), medicine(stock=9), give(0, 0, 0, 9)]
        self.assertEqual(behind(before, [why(0, 1, 0, 9), why(0, 1, 0, 10)]), [[0, 0], [3, 0]])


class Gap(unittest.TestCase):
    def test_just_as_far_away_and_one_hour_less(self):
        for gap in (1, 2, 6, 47, 48):
            before = [party(4, 70), medicine(1, gap), give(0, 0, 100, 1)]
            hours = (100 - gap, 101 - gap, 100, 99 + gap, 100 + gap)
            self.assertEqual(behind(before, [why(0, 0, t, 1) for t in hours]),
                             [[0, 0], [4, 1], [4, 1], [4, 1], [0, 0]])

    def test_of_the_same_person_and_medicine_alone(self):
        before = [party(4, 70, 80), medicine(1, 48), medicine(1, 48), give(0, 0, 100, 1)]
        self.assertEqual(behind(before, [why(0, 1, 100, 1), why(1, 0, 100, 1)]), [[0, 0], [0, 0]])

    def test_the_least_number_of_those_against_it(self):
        before = [party(4, 70, 80), medicine(1, 10), medicine(), give(1, 0, 105, 1), give(0, 1, 105, 1),
                  give(0, 0, 110, 1), give(0, 0, 100, 1), give(0, 0, 120, 1)]
        self.assertEqual(behind(before, [why(0, 0, t, 1) for t in (95, 105, 109, 110, 111, 119, 125)]),
                         [[4, 4], [4, 3], [4, 3], [4, 3], [4, 3], [4, 3], [4, 5]])


class Clash(unittest.TestCase):
    def test_just_as_far_away_and_one_hour_less(self):
        for hours in (1, 2, 24, 71, 72):
            for given, asked in ((0, 1), (1, 0)):
                before = [party(4, 70), medicine(), medicine(), clash(0, 1, hours), give(0, given, 100, 1)]
                at = (100 - hours, 101 - hours, 100, 99 + hours, 100 + hours)
                self.assertEqual(behind(before, [why(0, asked, t, 1) for t in at]),
                                 [[0, 0], [5, 1], [5, 1], [5, 1], [0, 0]])

    def test_of_the_same_person_alone(self):
        before = [party(4, 70, 80), medicine(), medicine(), clash(0, 1, 72), give(0, 0, 100, 1)]
        self.assertEqual(behind(before, [why(1, 1, 100, 1)]), [[0, 0]])

    def test_the_least_number_of_those_against_it(self):
        before = [party(4, 70), medicine(), medicine(), medicine(), medicine(), clash(0, 1, 20), clash(2, 0, 5),
                  give(0, 3, 50, 1), give(0, 2, 50, 1), give(0, 1, 60, 1), give(0, 1, 40, 1)]
        self.assertEqual(behind(before, [why(0, 0, t, 1) for t in (79, 54, 45, 30, 46, 80)]),
                         [[5, 3], [5, 2], [5, 3], [5, 4], [5, 2], [0, 0]])

    def test_a_clash_told_behind_the_dose(self):
        before = [party(4, 70), medicine(), medicine(), give(0, 0, 100, 1), clash(0, 1, 10)]
        self.assertEqual(behind(before, [why(0, 1, 109, 1), why(0, 1, 110, 1)]), [[5, 1], [0, 0]])


class Over24Hours(unittest.TestCase):
    def test_just_full_and_one_milligram_more(self):
        for cap, reason in ((1000, 0), (999, 6)):
            before = [party(4, 70), medicine(250, 1, cap), give(0, 0, 100, 1), give(0, 0, 110, 2)]
            self.assertEqual(behind(before, [why(0, 0, 123, 1)]), [[reason, 0]])
        self.assertEqual(behind([party(4, 70), medicine(1, 1, 9)], [why(0, 0, 0, 9), why(0, 0, 0, 10)]),
                         [[0, 0], [6, 0]])

    def test_a_dose_alone(self):
        self.assertEqual(last(party(4, 70), medicine(1000, 1, 10000), why(0, 0, 0, 10)), [0, 0])
        self.assertEqual(last(party(4, 70), medicine(1000, 1, 9999), why(0, 0, 0, 10)), [6, 0])
        self.assertEqual(last(party(4, 33), medicine(100, 1, 9999, 30), why(0, 0, 0, 10)), [6, 0])
        self.assertEqual(last(party(4, 34), medicine(100, 1, 9999, 30), why(0, 0, 0, 10)), [0, 0])

    def test_the_24th_hour_and_the_one_behind_it(self):
        before = [party(4, 70), medicine(100, 1, 100), give(0, 0, 100, 1)]
        self.assertEqual(behind(before, [why(0, 0, t, 1) for t in (76, 77, 99, 101, 123, 124)]),
                         [[0, 0], [6, 0], [6, 0], [6, 0], [6, 0], [0, 0]])

    def test_at_the_first_and_the_last_hour(self):
        before = [party(4, 70), medicine(100, 1, 100), give(0, 0, 0, 1), give(0, 0, 2399, 1)]
        self.assertEqual(behind(before, [why(0, 0, t, 1) for t in (1, 23, 24, 2375, 2376, 2398)]),
                         [[6, 0], [6, 0], [0, 0], [0, 0], [6, 0], [6, 0]])

    def test_hours_before_and_behind_it(self):
        before = [party(4, 70), medicine(100, 1, 300), give(0, 0, 100, 1), give(0, 0, 120, 1)]
        self.assertEqual(behind(before, [why(0, 0, 110, 1), why(0, 0, 110, 2), why(0, 0, 96, 2), why(0, 0, 97, 2)]),
                         [[0, 0], [6, 0], [0, 0], [6, 0]])

    def test_two_doses_that_no_24_hours_hold_together(self):
        before = [party(4, 70), medicine(100, 1, 200), give(0, 0, 100, 1), give(0, 0, 124, 1)]
        self.assertEqual(behind(before, [why(0, 0, t, 1) for t in range(101, 124)]), [[0, 0]] * 23)
        before = [party(4, 70), medicine(100, 1, 200), give(0, 0, 100, 1), give(0, 0, 123, 1)]
        self.assertEqual(behind(before, [why(0, 0, t, 1) for t in range(101, 123)]), [[6, 0]] * 22)

    def test_only_hours_that_hold_its_hour_count(self):
        before = [party(4, 70), medicine(100, 1, 300), give(0, 0, 100, 3), give(0, 0, 124, 3)]
        self.assertEqual(behind(before, [why(0, 0, 76, 3), why(0, 0, 148, 3), why(0, 0, 77, 1), why(0, 0, 147, 1)]),
                         [[0, 0], [0, 0], [6, 0], [6, 0]])

    def test_of_the_same_person_and_medicine_alone(self):
        before = [party(4, 70, 80), medicine(100, 1, 300), medicine(100, 1, 300), give(0, 0, 100, 3)]
        self.assertEqual(behind(before, [why(0, 1, 101, 3), why(1, 0, 101, 3), why(0, 0, 101, 1)]),
                         [[0, 0], [0, 0], [6, 0]])


class OrderOfReasons(unittest.TestCase):
    def test_the_first_of_all_that_are_so(self):
        # One reason less with each step: the last ones have fewer and fewer of them.
        def asked(allergic, spoilt, stock, gap, hours, unit):
            calls = [party(4, 70), medicine(unit, gap, 400, 0, 0, stock, spoilt), medicine(), clash(0, 1, hours),
                     medicine(), give(0, 0, 100, 1), give(0, 1, 110, 1)]
            if allergic:
                # The dose of the same medicine is another's, since one of the allergic would refuse the allergy.
                calls = [party(4, 70, 70), calls[1], medicine(), clash(0, 1, hours), medicine(), allergy(0, 0),
                         give(1, 0, 100, 1), give(0, 1, 110, 1)]
            return last(*(calls + [why(0, 0, 112, 4)]))
        self.assertEqual(asked(True, 112, 4, 13, 3, 100), [1, 0])
        self.assertEqual(asked(False, 112, 4, 13, 3, 100), [2, 0])
        self.assertEqual(asked(False, 113, 4, 13, 3, 100), [3, 0])
        self.assertEqual(asked(False, 113, 5, 13, 3, 100), [4, 1])
        self.assertEqual(asked(False, 113, 5, 12, 3, 100), [5, 2])
        self.assertEqual(asked(False, 113, 5, 12, 2, 100), [6, 0])
        self.assertEqual(asked(False, 113, 5, 12, 2, 80), [0, 0])

    def test_a_clash_with_a_lesser_number_goes_behind_the_gap(self):
        before = [party(4, 70), medicine(1, 9), medicine(), clash(0, 1, 9), give(0, 1, 100, 1), give(0, 0, 109, 1)]
        self.assertEqual(behind(before, [why(0, 0, 105, 1), why(0, 0, 100, 1)]), [[4, 2], [5, 1]])

    def test_asking_writes_nothing_down(self):
        before = [party(4, 70), medicine(100, 5, 300, 0, 0, 9, 2400)]
        asking = [why(0, 0, 10, 3), earliest(0, 0, 3, 10), course(0, 0, 3, 3, 10), room(0, 0, 10), taken(0, 0, 10)]
        self.assertEqual(behind(before + asking, probe(1, 1)), behind(before, probe(1, 1)))
        self.assertEqual(behind(before + asking, [retract(0)]), [[-1]])


if __name__ == "__main__":
    unittest.main()
