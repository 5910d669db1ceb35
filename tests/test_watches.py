"""Who is ill or drowsy, and who stands which watch (promises 1, 5, 6, 12 to 14)."""

import unittest

from tests.helper import (
    ask, behind, counts, fit, give, ill, last, medicine, party, probe, retract, state, treat, watch, watches, well,
)


class Illness(unittest.TestCase):
    before = [party(4, 70, 80)]

    def test_it_answers_the_number(self):
        self.assertEqual(behind(self.before, [ill(0, 50, 60), ill(1, 3, 4), ill(0, 50, 60)]), [[0], [1], [2]])

    def test_thirty_and_one_more(self):
        found = behind(self.before, [ill(n % 2, n, n + 1) for n in range(32)])
        self.assertEqual(found, [[n] for n in range(30)] + [[-8], [-8]])

    def test_the_one_more_changes_nothing(self):
        before = self.before + [medicine()] + [ill(0, 8, 12)] * 30
        more = [ill(1, 0, 2400), ill(0, 100, 200)]
        self.assertEqual(behind(before, more), [[-8], [-8]])
        self.assertEqual(behind(before + more, probe(2, 1)), behind(before, probe(2, 1)))

    def test_room_for_one_more_once_one_is_over(self):
        before = self.before + [ill(0, 8, 12)] * 30
        self.assertEqual(behind(before, [ill(1, 0, 9), well(4), ill(1, 0, 9), ill(1, 0, 9)]), [[-8], [29], [29], [-8]])

    def test_from_its_beginning_to_before_its_end(self):
        before = self.before + [ill(0, 10, 20)]
        self.assertEqual(behind(before, [fit(0, h) for h in (0, 9, 10, 15, 19, 20, 2399)]),
                         [[1], [1], [0], [0], [0], [1], [1]])
        self.assertEqual(behind(before, [fit(1, h) for h in (9, 10, 19, 20)]), [[1]] * 4)

    def test_of_one_hour_and_of_all_hours(self):
        self.assertEqual(behind(self.before + [ill(0, 10, 11)], [fit(0, 9), fit(0, 10), fit(0, 11)]), [[1], [0], [1]])
        self.assertEqual(behind(self.before + [ill(0, 0, 1)], [fit(0, 0), fit(0, 1)]), [[0], [1]])
        self.assertEqual(behind(self.before + [ill(0, 2399, 2400)], [fit(0, 2398), fit(0, 2399)]), [[1], [0]])
        self.assertEqual(behind(self.before + [ill(0, 0, 2400)], [fit(0, 0), fit(0, 1000), fit(0, 2399)]), [[0]] * 3)

    def test_two_that_meet_and_two_with_an_hour_between(self):
        before = self.before + [ill(0, 10, 20), ill(0, 20, 22), ill(0, 23, 30), ill(0, 5, 11)]
        unfit = [h for h in range(40) if behind(before, [fit(0, h)]) == [[0]]]
        self.assertEqual(unfit, list(range(5, 22)) + list(range(23, 30)))

    def test_somebody_ill_may_be_given_medicine(self):
        found = behind(self.before + [medicine(), ill(0, 0, 2400)], [give(0, 0, 5, 1), treat(0, 0, 1, 2, 9)])
        self.assertEqual(found, [[0], [2, 9, 10]])


class Well(unittest.TestCase):
    before = [party(4, 70, 80), ill(0, 10, 20), ill(1, 12, 30), ill(0, 15, 25), ill(1, 100, 200)]

    def illnesses(self, *calls):
        told = last(*self.before, *calls, state())
        self.assertEqual(told[:7], [4, 2, 70, 80, 0, 0, 0])
        numbers = told[8:]
        self.assertEqual(told[7] * 3, len(numbers))
        return [tuple(numbers[at:at + 3]) for at in range(0, len(numbers), 3)]

    def test_it_answers_how_many_there_are(self):
        self.assertEqual(behind(self.before, [well(3), well(0), well(1), well(0), well(0)]), [[3], [2], [1], [0], [-1]])

    def test_it_is_there_no_more_and_those_behind_it_have_numbers_one_less(self):
        told = self.illnesses()
        self.assertEqual(told, [(0, 10, 20), (1, 12, 30), (0, 15, 25), (1, 100, 200)])
        for i in range(4):
            self.assertEqual(self.illnesses(well(i)), told[:i] + told[i + 1:])
        self.assertEqual(self.illnesses(well(1), well(1)), [told[0], told[3]])
        self.assertEqual(self.illnesses(well(0), well(2)), [told[1], told[2]])

    def test_the_next_illness_comes_behind_those_left(self):
        self.assertEqual(behind(self.before, [well(0), ill(0, 1, 2), well(3), ill(0, 1, 2)]), [[3], [3], [3], [3]])
        self.assertEqual(self.illnesses(well(0), ill(0, 1, 2)), [(1, 12, 30), (0, 15, 25), (1, 100, 200), (0, 1, 2)])

    def test_they_are_fit_again_but_for_what_else_they_have(self):
        asked = [fit(0, 12), fit(0, 17), fit(0, 24), fit(1, 12)]
        self.assertEqual(behind(self.before, asked), [[0]] * 4)
        self.assertEqual(behind(self.before + [well(0)], asked), [[1], [0], [0], [0]])
        self.assertEqual(behind(self.before + [well(2)], asked), [[0], [0], [1], [0]])
        self.assertEqual(behind(self.before + [well(0), well(1)], asked), [[1], [1], [1], [0]])

    def test_a_number_that_there_is_not(self):
        before = self.before + [medicine()]
        wrong = [well(4), well(-1)]
        self.assertEqual(behind(before, wrong), [[-1], [-1]])
        self.assertEqual(behind(before + wrong, probe(2, 1)), behind(before, probe(2, 1)))

    def test_doses_stay_when_an_illness_is_over_and_illnesses_when_a_dose_is_retracted(self):
        before = self.before + [medicine(drowsy=3), give(0, 0, 50, 1), give(1, 0, 60, 1)]
        self.assertEqual(behind(before, [well(0), fit(0, 50), fit(0, 12), retract(0), fit(0, 50), fit(1, 12), fit(1, 60)]),
                         [[3], [0], [1], [1], [1], [0], [0]])


class Drowsy(unittest.TestCase):
    def unfit_hours(self, drowsy, hour, hours=range(0, 2400)):
        found = ask(party(4, 70, 80), medicine(drowsy=drowsy), give(0, 0, hour, 1), *[fit(0, h) for h in hours])
        return [h for h, answer in zip(hours, found[3:]) if answer == [0]]

    def test_as_many_hours_as_the_medicine_says(self):
        for drowsy in (0, 1, 2, 23, 24):
            hours = range(60, 160)
            self.assertEqual(self.unfit_hours(drowsy, 100, hours), list(range(100, 100 + drowsy)))

    def test_from_the_first_and_the_last_hour_on(self):
        self.assertEqual(self.unfit_hours(24, 0, range(0, 100)), list(range(24)))
        self.assertEqual(self.unfit_hours(24, 2399, range(2300, 2400)), [2399])
        self.assertEqual(self.unfit_hours(5, 2396, range(2300, 2400)), [2396, 2397, 2398, 2399])
        self.assertEqual(self.unfit_hours(0, 2399, range(2300, 2400)), [])

    def test_only_who_was_given_it(self):
        before = [party(4, 70, 80), medicine(drowsy=6), medicine(drowsy=2), give(0, 0, 10, 1), give(1, 1, 10, 1)]
        self.assertEqual(behind(before, [fit(0, 11), fit(0, 12), fit(0, 15), fit(0, 16)]), [[0], [0], [0], [1]])
        self.assertEqual(behind(before, [fit(1, 11), fit(1, 12)]), [[0], [1]])

    def test_the_units_make_no_odds(self):
        before = [party(4, 70), medicine(drowsy=3), give(0, 0, 10, 10)]
        self.assertEqual(behind(before, [fit(0, 12), fit(0, 13)]), [[0], [1]])

    def test_several_doses(self):
        before = [party(4, 70), medicine(drowsy=6), medicine(drowsy=2), give(0, 1, 16, 1), give(0, 0, 10, 1),
                  give(0, 1, 12, 1), give(0, 0, 19, 1)]
        unfit = [h for h in range(40) if behind(before, [fit(0, h)]) == [[0]]]
        self.assertEqual(unfit, list(range(10, 18)) + list(range(19, 25)))

    def test_a_refused_dose_makes_nobody_drowsy(self):
        found = ask(party(4, 70), medicine(drowsy=6, spoilt=10), give(0, 0, 10, 1), fit(0, 10), watch(2))
        self.assertEqual(found[2:], [[-12], [1], [0]])

    def test_a_course_that_is_only_asked_for_makes_nobody_drowsy_but_treat_does(self):
        before = [party(4, 70), medicine(gap=10, drowsy=6)]
        asked = [fit(0, h) for h in (0, 5, 6, 10, 15, 16)]
        self.assertEqual(behind(before + [[8, 0, 0, 1, 2, 0]], asked), [[1]] * 6)
        self.assertEqual(behind(before + [treat(0, 0, 1, 2, 0)], asked), [[0], [0], [1], [0], [0], [1]])


class Edges(unittest.TestCase):
    """Which watches of one person are lost to an illness or to drowsiness."""

    def missed(self, span, *calls):
        standing = last(party(span, 70), *calls, watches(0, 199))[1:]
        self.assertEqual([p for p in standing if p not in (0, -1)], [])
        return [k for k, p in enumerate(standing) if p == -1]

    def test_an_illness_at_a_watchs_first_and_last_hour(self):
        self.assertEqual(self.missed(4, ill(0, 8, 12)), [2])
        self.assertEqual(self.missed(4, ill(0, 7, 12)), [1, 2])
        self.assertEqual(self.missed(4, ill(0, 8, 13)), [2, 3])
        self.assertEqual(self.missed(4, ill(0, 11, 12)), [2])
        self.assertEqual(self.missed(4, ill(0, 11, 13)), [2, 3])
        self.assertEqual(self.missed(4, ill(0, 8, 9)), [2])
        self.assertEqual(self.missed(4, ill(0, 9, 10)), [2])
        self.assertEqual(self.missed(4, ill(0, 0, 1)), [0])
        self.assertEqual(self.missed(4, ill(0, 3, 17)), [0, 1, 2, 3, 4])
        self.assertEqual(self.missed(4, ill(0, 4, 16)), [1, 2, 3])

    def test_a_dose_at_a_watchs_first_and_last_hour(self):
        for drowsy, hour, missed in ((0, 8, []), (0, 9, []), (0, 11, []), (1, 8, [2]), (1, 11, [2]), (2, 11, [2, 3]),
                                     (1, 7, [1]), (4, 8, [2]), (5, 8, [2, 3]), (3, 5, [1]), (4, 5, [1, 2]),
                                     (24, 8, [2, 3, 4, 5, 6, 7]), (24, 9, [2, 3, 4, 5, 6, 7, 8]), (24, 0, [0, 1, 2, 3, 4, 5])):
            self.assertEqual(self.missed(4, medicine(drowsy=drowsy), give(0, 0, hour, 1)), missed, (drowsy, hour))

    def test_drowsiness_that_ends_just_where_a_watch_begins(self):
        before = [party(6, 70, 80), medicine(drowsy=5), ill(1, 0, 2400)]
        self.assertEqual(behind(before + [give(0, 0, 13, 1)], [fit(0, 17), fit(0, 18), watches(1, 4)]),
                         [[0], [1], [4, 0, -1, 0, 0]])
        self.assertEqual(behind(before + [give(0, 0, 14, 1)], [fit(0, 18), fit(0, 19), watches(1, 4)]),
                         [[0], [1], [4, 0, -1, -1, 0]])

    def test_a_span_of_1(self):
        self.assertEqual(self.missed(1, ill(0, 10, 13)), [10, 11, 12])
        self.assertEqual(self.missed(1, ill(0, 199, 2400)), [199])
        self.assertEqual(self.missed(1, ill(0, 200, 2400)), [])
        self.assertEqual(self.missed(1, medicine(drowsy=24), give(0, 0, 190, 1)), list(range(190, 200)))
        self.assertEqual(self.missed(1, medicine(drowsy=1), give(0, 0, 5, 1)), [5])
        self.assertEqual(self.missed(1, medicine(drowsy=0), give(0, 0, 5, 1)), [])

    def test_a_span_of_12(self):
        self.assertEqual(self.missed(12, ill(0, 12, 24)), [1])
        self.assertEqual(self.missed(12, ill(0, 11, 25)), [0, 1, 2])
        self.assertEqual(self.missed(12, ill(0, 2399, 2400)), [199])
        self.assertEqual(self.missed(12, ill(0, 2387, 2400)), [198, 199])
        self.assertEqual(self.missed(12, ill(0, 2388, 2400)), [199])
        self.assertEqual(self.missed(12, medicine(drowsy=24), give(0, 0, 2399, 1)), [199])
        self.assertEqual(self.missed(12, medicine(drowsy=24), give(0, 0, 2376, 1)), [198, 199])
        self.assertEqual(self.missed(12, medicine(drowsy=24), give(0, 0, 2375, 1)), [197, 198, 199])
        self.assertEqual(self.missed(12, medicine(drowsy=12), give(0, 0, 2376, 1)), [198])
        self.assertEqual(self.missed(12, medicine(drowsy=0), give(0, 0, 2399, 1)), [])

    def test_each_span_has_watches_of_so_many_hours(self):
        for span in range(1, 13):
            for hour in (0, span - 1, span, 2 * span - 1, 2 * span, 199 * span, 200 * span - 1):
                self.assertEqual(self.missed(span, ill(0, hour, hour + 1)), [hour // span], (span, hour))
            self.assertEqual(self.missed(span, ill(0, span, 2 * span)), [1])
            if span < 12:
                self.assertEqual(self.missed(span, ill(0, 200 * span, 2400)), [])

    def test_nobody_unfit_stands_a_watch(self):
        before = [party(3, 70, 80, 90), medicine(gap=3, drowsy=7), ill(0, 10, 40), ill(1, 33, 35), ill(2, 0, 5),
                  treat(1, 0, 1, 4, 11), treat(2, 0, 1, 3, 50), give(0, 0, 90, 1)]
        standing = behind(before, [watches(0, 39)])[0][1:]
        for k, person in enumerate(standing):
            able = [p for p in range(3)
                    if behind(before, [fit(p, h) for h in range(3 * k, 3 * k + 3)]) == [[1]] * 3]
            if able == []:
                self.assertEqual(person, -1)
            else:
                self.assertIn(person, able)


class Turns(unittest.TestCase):
    def test_all_fit_stand_in_turn(self):
        for people in range(1, 7):
            found = ask(party(4, *[70] * people), watches(0, 199), counts(200), watch(0), watch(199))
            self.assertEqual(found[1], [200] + [k % people for k in range(200)])
            self.assertEqual(found[2], [len(range(p, 200, people)) for p in range(people)])
            self.assertEqual(found[3:], [[0], [199 % people]])

    def test_nobody_has_stood_more_than_one_more_if_all_are_fit(self):
        for people in range(1, 7):
            found = ask(party(1, *[70] * people), *[counts(k) for k in range(201)])[1:]
            for k, stood in enumerate(found):
                self.assertEqual((len(stood), sum(stood)), (people, k))
                self.assertLessEqual(max(stood) - min(stood), 1)

    def test_the_fewest_watches_before_it(self):
        # Person 0 is ill for three watches and then stands three, until both have stood as many.
        found = behind([party(4, 70, 80), ill(0, 0, 12)], [watches(0, 9), counts(3), counts(6), counts(8)])
        self.assertEqual(found, [[10, 1, 1, 1, 0, 0, 0, 1, 0, 1, 0], [0, 3], [3, 3], [4, 4]])

    def test_the_fewest_goes_ahead_of_the_longest_ago(self):
        # At watches 4 and 5 the last one of person 1 is longer ago, but person 0 has stood fewer.
        before = [party(1, 70, 80), ill(0, 0, 3), ill(1, 3, 4)]
        self.assertEqual(behind(before, [watches(0, 6)]), [[7, 1, 1, 1, 0, 0, 0, 1]])

    def test_the_longest_ago_where_the_counts_are_the_same(self):
        # Behind the first three watches all have stood one: 2 first, then 0, then 1.
        before = [party(1, 70, 80, 90), ill(0, 0, 1), ill(1, 0, 2)]
        self.assertEqual(behind(before, [watches(0, 8)]), [[9, 2, 0, 1, 2, 0, 1, 2, 0, 1]])

    def test_the_last_watch_counts_and_not_the_first(self):
        # Two each behind watch 3: 0 stood 0 and 3, 1 stood 1 and 2. The first of 0 is longer ago, the last of 1.
        before = [party(1, 70, 80), ill(0, 1, 3)]
        self.assertEqual(behind(before, [watches(0, 5), counts(4)]), [[6, 0, 1, 1, 0, 1, 0], [2, 2]])

    def test_one_who_has_not_stood_any_goes_ahead(self):
        before = [party(1, 70, 80, 90), ill(2, 0, 4)]
        self.assertEqual(behind(before, [watches(0, 8)]), [[9, 0, 1, 0, 1, 2, 2, 0, 1, 2]])

    def test_the_lesser_number_of_several_who_have_not_stood_any(self):
        before = [party(1, 70, 80, 90, 60), ill(0, 0, 1)]
        self.assertEqual(behind(before, [watches(0, 3)]), [[4, 1, 0, 2, 3]])
        before = [party(1, 70, 80, 90, 60), ill(0, 0, 2), ill(1, 0, 1)]
        self.assertEqual(behind(before, [watches(0, 3)]), [[4, 2, 1, 0, 3]])

    def test_weights_make_no_odds(self):
        self.assertEqual(behind([party(4, 30, 150, 31)], [watches(0, 5)]), behind([party(4, 150, 30, 90)], [watches(0, 5)]))

    def test_it_is_nobodys_where_all_are_unfit(self):
        before = [party(4, 70, 80), medicine(drowsy=4), ill(0, 8, 20), give(1, 0, 8, 1), ill(1, 14, 15)]
        self.assertEqual(behind(before, [watches(0, 6), watch(2), watch(3), watch(4), counts(7)]),
                         [[7, 0, 1, -1, -1, 1, 0, 1], [-1], [-1], [1], [2, 3]])

    def test_a_watch_of_nobody_is_nobodys_turn(self):
        found = behind([party(4, 70, 80), ill(0, 4, 12), ill(1, 4, 12)], [watches(0, 5), counts(3), counts(4)])
        self.assertEqual(found, [[6, 0, -1, -1, 1, 0, 1], [1, 0], [1, 1]])

    def test_all_ill_always(self):
        before = [party(12, 70, 80), ill(0, 0, 2400), ill(1, 0, 2400)]
        self.assertEqual(behind(before, [watches(0, 199), counts(200), watch(0), watch(199)]),
                         [[200] + [-1] * 200, [0, 0], [-1], [-1]])


class Asked(unittest.TestCase):
    before = [party(3, 70, 80, 90), medicine(gap=5, drowsy=7), ill(0, 10, 40), ill(1, 33, 35), ill(2, 0, 5),
              treat(1, 0, 1, 4, 11), treat(2, 0, 1, 3, 50), give(0, 0, 400, 1), ill(1, 580, 2400)]

    def standing(self):
        return behind(self.before, [watches(0, 199)])[0][1:]

    def test_watch_by_watch(self):
        self.assertEqual([answer[0] for answer in behind(self.before, [watch(k) for k in range(200)])], self.standing())

    def test_some_of_the_watches(self):
        standing = self.standing()
        for a, b in ((0, 0), (0, 1), (5, 5), (5, 20), (17, 199), (199, 199), (198, 199), (0, 199)):
            self.assertEqual(behind(self.before, [watches(a, b)]), [[b - a + 1] + standing[a:b + 1]])

    def test_counts_are_of_those_before(self):
        standing = self.standing()
        for k in (0, 1, 2, 13, 14, 15, 100, 199, 200):
            self.assertEqual(behind(self.before, [counts(k)]), [[standing[:k].count(p) for p in range(3)]])

    def test_counts_before_the_first(self):
        for people in range(1, 7):
            self.assertEqual(last(party(4, *[70] * people), counts(0)), [0] * people)

    def test_asking_changes_nothing(self):
        asked = [watch(3), watches(0, 199), counts(200), fit(0, 10), state()]
        self.assertEqual(behind(self.before + asked, probe(3, 1)), behind(self.before, probe(3, 1)))


class ByWhatIsWrittenDownNow(unittest.TestCase):
    before = [party(4, 70, 80), medicine(drowsy=4)]

    def test_an_illness_told_later_changes_watches_before(self):
        found = behind(self.before, [watches(0, 5), ill(0, 0, 4), watches(0, 5), ill(1, 20, 21), watches(0, 5), counts(6)])
        self.assertEqual(found[0::2][:3], [[6, 0, 1, 0, 1, 0, 1], [6, 1, 0, 1, 0, 1, 0], [6, 1, 0, 1, 0, 1, 0]])
        self.assertEqual(found[5], [3, 3])

    def test_an_illness_that_is_over_changes_watches_before(self):
        found = behind(self.before + [ill(0, 0, 4)], [watches(0, 5), well(0), watches(0, 5)])
        self.assertEqual(found, [[6, 1, 0, 1, 0, 1, 0], [0], [6, 0, 1, 0, 1, 0, 1]])

    def test_a_dose_written_later_for_an_hour_before(self):
        found = behind(self.before, [watches(0, 5), give(0, 0, 16, 1), watches(0, 5), give(0, 0, 1, 1), watches(0, 5)])
        self.assertEqual(found, [[6, 0, 1, 0, 1, 0, 1], [0], [6, 0, 1, 0, 1, 1, 0], [1], [6, 1, 1, 0, 0, 1, 0]])

    def test_a_dose_taken_back(self):
        found = behind(self.before + [give(0, 0, 16, 1), give(0, 0, 1, 1)],
                       [watches(0, 5), retract(1), watches(0, 5), retract(0), watches(0, 5)])
        self.assertEqual(found[0::2], [[6, 1, 1, 0, 0, 1, 0], [6, 0, 1, 0, 1, 1, 0], [6, 0, 1, 0, 1, 0, 1]])

    def test_treat_written_later(self):
        found = behind(self.before, [counts(6), treat(1, 0, 2, 2, 4), watches(0, 5), counts(6)])
        self.assertEqual(found, [[3, 3], [2, 4, 5], [6, 0, 0, 0, 1, 1, 1], [3, 3]])

    def test_counts_and_watch_are_by_it_too(self):
        found = behind(self.before, [watch(0), counts(1), ill(0, 3, 4), watch(0), counts(1), well(0), watch(0), counts(1)])
        self.assertEqual(found, [[0], [1, 0], [0], [1], [0, 1], [0], [0], [1, 0]])


if __name__ == "__main__":
    unittest.main()
