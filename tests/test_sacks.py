"""Points 22 to 24, of the sixth item of point 4 what it says of them, and point 2 where it speaks of these."""

import unittest
from fractions import Fraction
from random import Random

from goodenough.sacks import bound_of, by_weight, weighing
from helper import (all_fillings, as_fraction, as_told, assert_shortest, assert_unchanged, assert_whole_numbers,
                    sack_questions)

GREATEST = 10 ** 18


def seeded():
    return (sack_questions(1, 200, 7, 6, 6) + sack_questions(2, 80, 20, 40, 40) + sack_questions(3, 30, 40, GREATEST, 9)
            + sack_questions(4, 30, 20, GREATEST, GREATEST) + sack_questions(5, 30, 12, 9, GREATEST))


def told_by_the_rule(room, things):
    """Points 23 and 24 step by step, with Python's fractions: the filling, and its weighing."""
    fitting = [number for number, (_, weight) in enumerate(things) if weight <= room]
    order = sorted(fitting, key=lambda number: (-Fraction(*things[number]), number))
    taken = []
    price = None
    for number in order:
        if sum(things[other][1] for other in taken) + things[number][1] <= room:
            taken.append(number)
        elif price is None:
            price = Fraction(*things[number])
    worth = sum(things[number][0] for number in taken)
    greater = [number for number in fitting if things[number][0] > worth]
    if greater:
        most = max(things[number][0] for number in greater)
        taken = [min(number for number in greater if things[number][0] == most)]
    return sorted(taken), Fraction(0) if price is None else price


def bound_by_the_rule(room, things, price):
    return price * room + sum(max(Fraction(0), worth - price * weight) for worth, weight in things if weight <= room)


class ByWeightTest(unittest.TestCase):

    def test_no_things_and_no_room(self):
        for room, things in ((0, []), (9, []), (0, [(4, 1), (0, 1)]), (3, [(4, 4), (9, 5)])):
            told = by_weight(room, things)
            self.assertIs(type(told), list)
            self.assertEqual(told, [])
            self.assertEqual(weighing(room, things), (0, 1))

    def test_all_fit(self):
        things = [(1, 3), (9, 2), (0, 1)]
        self.assertEqual(by_weight(6, things), [0, 1, 2])
        self.assertEqual(weighing(6, things), (0, 1))

    def test_by_worth_a_weight(self):
        # 9/4 goes first; 6/3 doesn't fit behind it, and 1/1 does.
        things = [(6, 3), (9, 4), (1, 1)]
        self.assertEqual(by_weight(6, things), [1, 2])
        self.assertEqual(weighing(6, things), (2, 1))

    def test_what_does_not_fit_alone_is_no_part_of_it(self):
        things = [(90, 9), (3, 4), (2, 4)]
        self.assertEqual(by_weight(8, things), [1, 2])
        self.assertEqual(weighing(8, things), (0, 1))
        self.assertEqual(weighing(7, things), (1, 2))

    def test_the_first_that_did_not_fit_is_weighed(self):
        things = [(10, 5), (6, 4), (1, 1), (3, 4)]
        self.assertEqual(by_weight(7, things), [0, 2])
        self.assertEqual(weighing(7, things), (3, 2))

    def test_worths_of_nought(self):
        self.assertEqual(by_weight(3, [(0, 2), (0, 1), (0, 4)]), [0, 1])
        self.assertEqual(by_weight(2, [(0, 2), (5, 1)]), [1])
        self.assertEqual(weighing(2, [(0, 2), (5, 1)]), (0, 1))
        self.assertEqual(weighing(2, [(0, 2), (0, 1)]), (0, 1))

    def test_like_rates_in_the_lists_order(self):
        self.assertEqual(by_weight(4, [(2, 2), (1, 1), (3, 3)]), [0, 1])
        self.assertEqual(by_weight(4, [(1, 1), (3, 3), (2, 2)]), [0, 1])
        self.assertEqual(weighing(4, [(1, 1), (3, 3), (2, 2)]), (1, 1))

    def test_one_thing_of_more_worth(self):
        self.assertEqual(by_weight(10, [(2, 1), (10, 10)]), [1])
        self.assertEqual(by_weight(10, [(10, 10), (2, 1)]), [0])
        self.assertEqual(weighing(10, [(2, 1), (10, 10)]), (1, 1))
        # As much worth isn't more.
        self.assertEqual(by_weight(10, [(10, 10), (10, 1)]), [1])

    def test_several_of_more_worth(self):
        self.assertEqual(by_weight(10, [(3, 1), (9, 10), (10, 10), (10, 10)]), [2])
        self.assertEqual(by_weight(10, [(3, 1), (10, 10), (9, 10), (11, 11)]), [1])

    def test_told_rising(self):
        self.assertEqual(by_weight(3, [(1, 1), (2, 1), (3, 1), (4, 9)]), [0, 1, 2])

    def test_great_ones_that_differ_by_little(self):
        things = [(GREATEST - 1, GREATEST), (GREATEST - 2, GREATEST - 1)]
        self.assertEqual(by_weight(GREATEST, things), [0])
        self.assertEqual(weighing(GREATEST, things), (GREATEST - 2, GREATEST - 1))

    def test_seeded_against_the_rule(self):
        for room, things in seeded():
            taken, price = told_by_the_rule(room, things)
            told = by_weight(room, things)
            assert_whole_numbers(self, told)
            self.assertEqual(told, taken)
            told = weighing(room, things)
            assert_shortest(self, told)
            self.assertEqual(as_fraction(told), price)


class BoundTest(unittest.TestCase):

    def test_written_out(self):
        things = [(6, 3), (9, 4), (1, 1), (100, 7)]
        self.assertEqual(bound_of(6, things, (0, 1)), (16, 1))
        self.assertEqual(bound_of(6, things, (2, 1)), (13, 1))
        self.assertEqual(bound_of(6, things, (9, 4)), (27, 2))
        self.assertEqual(bound_of(6, things, (1, 3)), (2 * 3 + 5 * 3 + 23 + 2, 3))
        self.assertEqual(bound_of(6, things, (50, 1)), (300, 1))

    def test_without_things_or_room(self):
        self.assertEqual(bound_of(0, [], (7, 2)), (0, 1))
        self.assertEqual(bound_of(5, [], (7, 2)), (35, 2))
        self.assertEqual(bound_of(0, [(9, 1)], (7, 2)), (0, 1))
        self.assertEqual(bound_of(3, [(9, 4)], (0, 1)), (0, 1))

    def test_seeded_against_the_rule(self):
        random = Random(6)
        for room, things in seeded():
            figures = random.choice((1, 2, 20, 60))
            price = Fraction(random.randint(0, 10 ** figures - 1), random.randint(1, 10 ** figures - 1))
            told = bound_of(room, things, as_told(price))
            assert_shortest(self, told)
            self.assertEqual(as_fraction(told), bound_by_the_rule(room, things, price))

    def test_half_of_the_bound_of_the_weighing(self):
        for room, things in seeded():
            worth = sum(things[number][0] for number in by_weight(room, things))
            self.assertGreaterEqual(2 * worth, as_fraction(bound_of(room, things, weighing(room, things))))


class PromiseTest(unittest.TestCase):

    def test_no_filling_has_more_than_any_bound(self):
        random = Random(7)
        for room, things in sack_questions(8, 120, 7, 8, 8) + sack_questions(9, 30, 7, GREATEST, GREATEST):
            fillings = list(all_fillings(room, things))
            self.assertIn(tuple(by_weight(room, things)), fillings)
            most = max(sum(things[number][0] for number in taken) for taken in fillings)
            prices = [weighing(room, things), (0, 1), (1, 1)]
            prices += [as_told(Fraction(random.randint(0, 9), random.randint(1, 9))) for _ in range(4)]
            for price in prices:
                self.assertGreaterEqual(as_fraction(bound_of(room, things, price)), most)
            self.assertGreaterEqual(2 * sum(things[number][0] for number in by_weight(room, things)), most)


class UnchangedTest(unittest.TestCase):

    def test_given_and_told(self):
        for room, things in ((0, []), (6, [(6, 3), (9, 4), (1, 1)]), (10, [(2, 1), (10, 10)])):
            for ask in (by_weight, weighing):
                assert_unchanged(self, ask, (room, things))
            assert_unchanged(self, bound_of, (room, things, (2, 3)))


if __name__ == "__main__":
    unittest.main()
