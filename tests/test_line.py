"""How calls and answers stand in their lists, the party, and what is kept (promise 0, the interface)."""

import unittest

from chestwatches.party import answers
from tests.helper import (
    HUGE, allergy, ask, behind, clash, counts, course, earliest, fit, flat, give, ill, last, left, log, medicine,
    party, probe, retract, room, state, taken, treat, watch, watches, well, why, worst,
)

EACH_CALL = [
    medicine(), allergy(0, 0), clash(0, 1, 5), give(0, 0, 0, 1), retract(0), why(0, 0, 0, 1), earliest(0, 0, 1, 0),
    course(0, 0, 1, 1, 0), room(0, 0, 0), taken(0, 0, 0), ill(0, 0, 5), watch(0), watches(0, 1), counts(3), left(0),
    log(), fit(0, 0), worst(0, 0), treat(0, 0, 1, 2, 0), well(0), state(),
]


class Form(unittest.TestCase):
    def test_each_answer_has_its_count_before_it(self):
        line = flat([
            party(4, 70, 80), medicine(500, 6, 4000, 50, 0, 100, 2400), medicine(), allergy(1, 0), clash(0, 1, 3),
            give(0, 0, 5, 2), why(0, 0, 10, 1), earliest(0, 0, 1, 5), course(0, 0, 2, 4, 0), room(0, 0, 11),
            taken(0, 0, 28), retract(0), taken(0, 0, 28), retract(0),
            ill(1, 4, 9), watch(1), watch(0), watches(0, 3), counts(3), left(0), log(), fit(1, 8), worst(0, 0),
            treat(0, 0, 1, 2, 7), log(), worst(0, 0), left(0), state(), well(0), watches(1, 1), ill(0, 0, 4),
            ill(1, 0, 4), watch(0), watches(0, 1), counts(0), counts(1),
        ])
        self.assertEqual(answers(line), [
            1, 0, 1, 0, 1, 1, 1, 1, 1, 1,
            1, 0, 2, 4, 1, 1, 11, 5, 4, 11, 17, 29, 35, 1, 5,
            2, 1000, 3500, 1, 0, 2, 0, 3500, 1, -1,
            1, 0, 1, 0, 1, 0, 5, 4, 0, 0, 0, 1, 2, 3, 0, 1, 100, 1, 0, 1, 0, 1, 0,
            3, 2, 7, 13, 9, 2, 0, 0, 7, 1, 0, 0, 13, 1, 1, 1000, 1, 98,
            30, 4, 2, 70, 80, 2, 500, 6, 4000, 50, 0, 100, 2400, 100, 1, 10000, 0, 0, 500, 2400, 1, 1, 0, 1, 0, 1, 3,
            1, 1, 4, 9, 1, 0, 2, 1, 1, 1, 0, 1, 1, 1, -1, 3, 2, -1, 0, 2, 0, 0, 2, 0, 0,
        ])

    def test_it_gives_back_a_list_of_ints(self):
        given = answers(flat([party(1, 30)] + EACH_CALL + [medicine(), medicine()] + EACH_CALL + probe(1, 2)))
        self.assertIs(type(given), list)
        self.assertEqual({type(number) for number in given}, {int})

    def test_a_line_of_one_call(self):
        self.assertEqual(answers(party(12, 150)), [1, 0])
        self.assertEqual(answers(retract(0)), [1, -2])

    def test_a_line_of_400_calls(self):
        calls = [party(1, 50), medicine(1, 1, 10000, 0, 0, 500, 2400)]
        calls += [course(0, 0, 1, 20, 0)] * 398
        found = ask(*calls)
        self.assertEqual(found[2:], [[20] + list(range(20))] * 398)

    def test_what_is_handed_in_stays_as_it_was(self):
        line = flat([party(4, 70, 80)] + EACH_CALL + [medicine(), medicine()] + EACH_CALL + probe(2, 2))
        before = list(line)
        answers(line)
        self.assertEqual(line, before)

    def test_what_is_given_back_is_the_callers_own(self):
        line = flat([party(4, 70), medicine(), course(0, 0, 1, 3, 7)])
        first = answers(line)
        kept = list(first)
        first.append(99)
        self.assertEqual(answers(line), kept)

    def test_nothing_is_kept_from_one_time_to_the_next(self):
        line = flat([party(4, 70, 80), medicine(), medicine(drowsy=9), clash(0, 1, 5), give(0, 0, 0, 1), allergy(1, 1),
                     ill(0, 3, 30), treat(0, 1, 1, 3, 7)] + probe(2, 2))
        first = answers(line)
        self.assertEqual(answers(medicine()), [1, -2])
        self.assertEqual(answers(state()), [1, -2])
        self.assertEqual(answers(line), first)

    def test_a_new_party_of_a_new_line_is_empty(self):
        old = flat([party(4, 70), medicine(), medicine(), allergy(0, 1), clash(0, 1, 5), treat(0, 0, 1, 5, 0),
                    ill(0, 0, 9)])
        answers(old)
        self.assertEqual(ask(party(6, 50), state(), log()), [[0], [6, 1, 50, 0, 0, 0, 0], [0]])


class NoParty(unittest.TestCase):
    def test_each_call_ahead_of_any_party(self):
        for call in EACH_CALL:
            self.assertEqual(ask(call), [[-2]])

    def test_no_party_goes_ahead_of_out_of_range(self):
        for call in EACH_CALL:
            for number in (-HUGE, -1, HUGE):
                self.assertEqual(ask([call[0]] + [number] * (len(call) - 1)), [[-2]])

    def test_a_refused_party_is_none(self):
        for call in EACH_CALL:
            self.assertEqual(ask(party(0, 70), call), [[-1], [-2]])

    def test_each_place_is_among_them(self):
        self.assertEqual([call[0] for call in EACH_CALL], list(range(1, 22)))

    def test_a_call_ahead_of_the_party_changes_nothing(self):
        calls = [party(4, 70, 80), medicine(), medicine()] + probe(2, 2)
        self.assertEqual(behind(EACH_CALL, calls), ask(*calls))


class Party(unittest.TestCase):
    def test_span(self):
        for span in (1, 2, 11, 12):
            self.assertEqual(ask(party(span, 70)), [[0]])
        for span in (0, 13, -1, -HUGE, HUGE):
            self.assertEqual(ask(party(span, 70)), [[-1]])

    def test_how_many_weights(self):
        for many in range(21):
            self.assertEqual(ask(party(4, *[70] * many)), [[0 if 1 <= many <= 6 else -1]])

    def test_each_weight(self):
        for many in range(1, 7):
            for at in range(many):
                for weight in (30, 31, 149, 150, 29, 151, 0, -70, -HUGE, HUGE):
                    weights = [70] * many
                    weights[at] = weight
                    self.assertEqual(ask(party(4, *weights)), [[0 if 30 <= weight <= 150 else -1]])

    def test_a_row_out_of_range_is_read_whole(self):
        self.assertEqual(ask(party(4, *[HUGE] * 20), party(4), party(4, 70), medicine()), [[-1], [-1], [0], [0]])

    def test_its_people_are_those_told(self):
        for many in range(1, 7):
            calls = [party(4, *range(30, 30 + many)), medicine(1, 1, 10000, 1, 0, 5, 2400)]
            asked = [taken(p, 0, 0) for p in range(many)]
            self.assertEqual(behind(calls, asked), [[0, 30 + p] for p in range(many)])
            self.assertEqual(behind(calls, [taken(many, 0, 0)]), [[-1]])

    def test_a_second_party_begins_anew(self):
        old = [party(4, 70, 80), medicine(500, 6, 4000, 50, 0, 3, 2000), medicine(drowsy=7), clash(0, 1, 40),
               allergy(1, 0), give(0, 0, 5, 2), give(0, 1, 100, 3), treat(0, 1, 1, 4, 200), ill(1, 0, 50), ill(0, 9, 99)]
        new = [party(3, 60, 50, 40), retract(0), well(0), why(0, 0, 0, 1), left(0), state(), log(), watches(0, 4),
               medicine(100, 2, 300, 0, 0, 9, 100), medicine(7, 3, 700, 2, 0, 10, 2400)]
        calls = new + probe(3, 2)
        self.assertEqual(behind(old, calls), ask(*calls))
        self.assertEqual(ask(*calls)[:10], [[0], [-1], [-1], [-1], [-1], [3, 3, 60, 50, 40, 0, 0, 0, 0], [0],
                                            [5, 0, 1, 2, 0, 1], [0], [1]])

    def test_a_second_party_has_all_its_room_anew(self):
        def full():
            calls = [party(4, 70)] + [medicine()] * 8 + [clash(0, 1, 1)] * 30 + [ill(0, 1, 5)] * 30
            return calls + [give(0, 0, t, 1) for t in range(40)] + [treat(0, 0, 1, 20, 50)]
        found = ask(*(full() + full()))
        self.assertEqual(found[:110], found[110:])
        self.assertEqual(found[-1], [20] + list(range(50, 70)))

    def test_a_refused_party_leaves_the_one_there_is(self):
        old = [party(4, 70, 80), medicine(500, 6, 4000, 50, 0, 9, 2000), medicine(drowsy=7), clash(0, 1, 40),
               allergy(1, 0), give(0, 0, 5, 2), give(0, 1, 100, 3), ill(1, 3, 20)]
        for wrong in (party(0, 60), party(13, 60), party(4), party(4, 60, 29), party(4, *[60] * 7)):
            self.assertEqual(ask(*(old + [wrong]))[-1], [-1])
            self.assertEqual(behind(old + [wrong], probe(2, 2)), behind(old, probe(2, 2)))

    def test_the_party_answers_nothing_but_0(self):
        self.assertEqual(last(party(4, 70), party(5, 80)), [0])


if __name__ == "__main__":
    unittest.main()
