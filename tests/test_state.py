"""All that was told, as it was told (promise 6, state)."""

import unittest

from tests.helper import (
    allergy, ask, behind, clash, give, ill, last, medicine, party, retract, state, treat, well,
)


class State(unittest.TestCase):
    def test_a_party_with_an_empty_chest(self):
        self.assertEqual(ask(party(4, 70), state()), [[0], [4, 1, 70, 0, 0, 0, 0]])
        self.assertEqual(ask(party(12, 30, 150, 31, 149, 90, 60), state()),
                         [[0], [12, 6, 30, 150, 31, 149, 90, 60, 0, 0, 0, 0]])
        self.assertEqual(ask(party(1, 50, 40), state()), [[0], [1, 2, 50, 40, 0, 0, 0, 0]])

    def test_everything_in_its_order(self):
        found = last(
            party(5, 70, 80), medicine(500, 6, 4000, 50, 7, 100, 2000), ill(1, 9, 30), medicine(1, 2, 3, 4, 5, 6, 7),
            clash(1, 0, 12), allergy(1, 1), ill(0, 2, 5), allergy(0, 1), clash(0, 1, 3), ill(1, 9, 30), state())
        self.assertEqual(found, [
            5, 2, 70, 80,
            2, 500, 6, 4000, 50, 7, 100, 2000, 1, 2, 3, 4, 5, 6, 7,
            2, 1, 1, 0, 1,
            2, 1, 0, 12, 0, 1, 3,
            3, 1, 9, 30, 0, 2, 5, 1, 9, 30])

    def test_medicines_at_both_ends_of_their_ranges(self):
        least = medicine(1, 1, 1, 0, 0, 0, 0)
        most = medicine(1000, 48, 10000, 200, 24, 500, 2400)
        self.assertEqual(last(party(4, 70), most, least, most, state()),
                         [4, 1, 70, 3] + most[1:] + least[1:] + most[1:] + [0, 0, 0])

    def test_the_stock_is_as_it_was_told(self):
        before = [party(4, 70), medicine(stock=9), give(0, 0, 5, 4), treat(0, 0, 1, 2, 50)]
        self.assertEqual(behind(before, [state()]), [[4, 1, 70, 1, 100, 1, 10000, 0, 0, 9, 2400, 0, 0, 0]])

    def test_clashes_of_the_same_two_told_either_way_round(self):
        told = [clash(0, 1, 5), clash(1, 0, 9), clash(0, 1, 5), clash(2, 1, 72), clash(1, 0, 1), clash(0, 1, 72),
                clash(1, 2, 3)]
        found = last(party(4, 70), medicine(), medicine(), medicine(), *told, state())
        self.assertEqual(found[25:], [0, 7, 0, 1, 5, 1, 0, 9, 0, 1, 5, 2, 1, 72, 1, 0, 1, 0, 1, 72, 1, 2, 3, 0])

    def test_allergies_in_the_order_of_telling(self):
        found = last(party(4, 70, 80), medicine(), medicine(), allergy(1, 1), allergy(0, 0), allergy(1, 0), state())
        self.assertEqual(found[19:], [3, 1, 1, 0, 0, 1, 0, 0, 0])

    def test_illnesses_in_the_order_of_telling_and_those_that_are_over_left_out(self):
        before = [party(4, 70, 80), ill(1, 2399, 2400), ill(0, 0, 2400), ill(1, 5, 6), ill(0, 0, 2400)]
        self.assertEqual(behind(before, [state()])[0][7:], [4, 1, 2399, 2400, 0, 0, 2400, 1, 5, 6, 0, 0, 2400])
        self.assertEqual(behind(before + [well(1)], [state()])[0][7:], [3, 1, 2399, 2400, 1, 5, 6, 0, 0, 2400])

    def test_as_much_as_there_can_be(self):
        medicines = [medicine(1 + n, 2, 3, 4, 5, 6, 7 + n) for n in range(8)]
        allergies = [allergy(p, m) for m in range(8) for p in range(5, -1, -1)]
        clashes = [clash(n % 8, (n + 3) % 8, 72 - n) for n in range(30)]
        illnesses = [ill(n % 6, n, 2400 - n) for n in range(30)]
        told = last(party(3, *range(30, 36)), *medicines, *allergies, *clashes, *illnesses, state())
        expected = [3, 6] + list(range(30, 36))
        for calls in (medicines, allergies, clashes, illnesses):
            expected.append(len(calls))
            for call in calls:
                expected += call[1:]
        self.assertEqual(told, expected)

    def test_doses_are_not_in_it(self):
        before = [party(4, 70), medicine(), medicine()]
        given = [give(0, 0, 5, 1), treat(0, 1, 2, 5, 7), retract(2)]
        self.assertEqual(behind(before + given, [state()]), behind(before, [state()]))

    def test_refusals_leave_it_as_it_was(self):
        before = [party(4, 70, 80), medicine(), medicine(), allergy(1, 1), clash(0, 1, 5), ill(0, 3, 9),
                  give(0, 0, 5, 1), give(0, 1, 20, 1)]
        wrong = [party(0, 50), medicine(unit=0), allergy(1, 1), allergy(0, 0), clash(0, 0, 5), clash(0, 1, 16),
                 clash(0, 1, 73), ill(0, 9, 9), ill(2, 3, 9), well(1), well(-1), give(0, 0, 5, 1), treat(1, 1, 1, 1, 0)]
        self.assertEqual(behind(before, wrong), [[-1], [-1], [-4], [-7], [-4], [-7], [-1], [-1], [-1], [-1], [-1], [-14],
                                                 [-6]])
        self.assertEqual(behind(before + wrong, [state()]), behind(before, [state()]))

    def test_it_is_the_same_when_asked_twice(self):
        before = [party(4, 70, 80), medicine(), allergy(1, 0), ill(0, 3, 9)]
        self.assertEqual(behind(before + [state()], [state()]), behind(before, [state()]))


if __name__ == "__main__":
    unittest.main()
