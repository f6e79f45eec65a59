"""Points 5 and 6: fractions, and the steps' sum."""

import unittest
from fractions import Fraction
from random import Random

from goodenough.errors import NoShare
from goodenough.shares import less, minus, over, plus, rounded_up, share, steps_sum, times
from helper import as_fraction, as_told, assert_shortest

SMALL = [number for number in range(-7, 8)]
GREAT = [10 ** 60, -(10 ** 60) - 1, 3 ** 140, -(6 ** 90), 2 ** 210 * 3 ** 5, 10 ** 199 + 7, 10 ** 200 - 1]


def seeded_pairs(seed, count):
    random = Random(seed)
    pairs = []
    for _ in range(count):
        figures = random.choice((1, 2, 9, 61, 80, 200))
        top = random.randint(-(10 ** figures) + 1, 10 ** figures - 1)
        bottom = random.randint(1, 10 ** random.choice((1, 2, 9, 61, 80, 200)) - 1)
        pairs.append((top, bottom * random.choice((1, -1))))
    return pairs


def some_fractions():
    made = [Fraction(top, bottom) for top in range(-4, 5) for bottom in range(1, 5)]
    made += [Fraction(top, bottom) for top, bottom in seeded_pairs(5, 40)]
    return sorted(set(made))


class ShareTest(unittest.TestCase):

    def assert_told(self, told, fraction):
        assert_shortest(self, told)
        self.assertEqual(told, as_told(fraction))

    def test_written_out(self):
        self.assertEqual(share(6, 4), (3, 2))
        self.assertEqual(share(-6, 4), (-3, 2))
        self.assertEqual(share(6, -4), (-3, 2))
        self.assertEqual(share(-6, -4), (3, 2))
        self.assertEqual(share(5, 1), (5, 1))
        self.assertEqual(share(5, -5), (-1, 1))
        self.assertEqual(share(1, 7), (1, 7))

    def test_nought(self):
        for bottom in (1, 2, -1, -9, 10 ** 70, -(10 ** 199)):
            told = share(0, bottom)
            assert_shortest(self, told)
            self.assertEqual(told, (0, 1))

    def test_small(self):
        for top in SMALL:
            for bottom in SMALL:
                if bottom != 0:
                    self.assert_told(share(top, bottom), Fraction(top, bottom))

    def test_great(self):
        for top in GREAT + SMALL:
            for bottom in GREAT:
                self.assert_told(share(top, bottom), Fraction(top, bottom))
                self.assert_told(share(top, -bottom), Fraction(top, -bottom))

    def test_seeded(self):
        for top, bottom in seeded_pairs(1, 200):
            self.assert_told(share(top, bottom), Fraction(top, bottom))

    def test_great_common_factor(self):
        factor = 10 ** 120 + 3
        self.assertEqual(share(6 * factor, -4 * factor), (-3, 2))

    def test_over_nought_is_refused(self):
        for top in (0, 1, -1, 10 ** 61, -(10 ** 199)):
            with self.assertRaises(NoShare):
                share(top, 0)


class ReckoningTest(unittest.TestCase):

    def assert_all_pairs(self, told_by, wanted_by, skip_nought=False):
        fractions = some_fractions()
        for one in fractions:
            for other in fractions:
                if skip_nought and other == 0:
                    continue
                told = told_by(as_told(one), as_told(other))
                assert_shortest(self, told)
                self.assertEqual(told, as_told(wanted_by(one, other)))

    def test_plus(self):
        self.assertEqual(plus((1, 2), (1, 3)), (5, 6))
        self.assertEqual(plus((1, 6), (1, 3)), (1, 2))
        self.assertEqual(plus((1, 2), (-1, 2)), (0, 1))
        self.assert_all_pairs(plus, lambda one, other: one + other)

    def test_minus(self):
        self.assertEqual(minus((1, 2), (1, 3)), (1, 6))
        self.assertEqual(minus((1, 3), (1, 2)), (-1, 6))
        self.assertEqual(minus((5, 6), (5, 6)), (0, 1))
        self.assert_all_pairs(minus, lambda one, other: one - other)

    def test_times(self):
        self.assertEqual(times((2, 3), (3, 4)), (1, 2))
        self.assertEqual(times((-2, 3), (-3, 2)), (1, 1))
        self.assertEqual(times((0, 1), (-3, 2)), (0, 1))
        self.assert_all_pairs(times, lambda one, other: one * other)

    def test_over(self):
        self.assertEqual(over((1, 2), (3, 4)), (2, 3))
        self.assertEqual(over((1, 2), (-3, 4)), (-2, 3))
        self.assertEqual(over((0, 1), (-3, 4)), (0, 1))
        self.assert_all_pairs(over, lambda one, other: one / other, skip_nought=True)

    def test_over_nought_is_refused(self):
        for one in some_fractions():
            with self.assertRaises(NoShare):
                over(as_told(one), (0, 1))

    def test_less(self):
        fractions = some_fractions()
        for one in fractions:
            for other in fractions:
                self.assertIs(less(as_told(one), as_told(other)), one < other)

    def test_less_of_equal_ones(self):
        for one in ((0, 1), (1, 2), (-1, 2), (10 ** 100 + 1, 10 ** 100), (-(10 ** 100) - 1, 10 ** 100)):
            self.assertIs(less(one, one), False)

    def test_less_of_neighbours(self):
        # These two differ by the least that two fractions with such bottoms can.
        for great in (1, 2, 9, 10 ** 18, 10 ** 60, 10 ** 198):
            lower = (great, great + 1)
            higher = (great + 1, great + 2)
            self.assertIs(less(lower, higher), True)
            self.assertIs(less(higher, lower), False)
            self.assertIs(less((-great, great + 1), (-great - 1, great + 2)), False)
            self.assertIs(less((-great - 1, great + 2), (-great, great + 1)), True)

    def test_rounded_up_written_out(self):
        wanted = (((0, 1), 0), ((7, 1), 7), ((-7, 1), -7), ((1, 2), 1), ((-1, 2), 0), ((7, 3), 3), ((-7, 3), -2),
                  ((10 ** 100 + 1, 10 ** 100), 2), ((-(10 ** 100) - 1, 10 ** 100), -1), ((10 ** 90, 1), 10 ** 90),
                  ((1, 10 ** 90), 1), ((-1, 10 ** 90), 0))
        for one, number in wanted:
            told = rounded_up(one)
            self.assertIs(type(told), int)
            self.assertEqual(told, number)

    def test_rounded_up_is_the_least_not_below(self):
        for one in some_fractions():
            told = rounded_up(as_told(one))
            self.assertTrue(told - 1 < one <= told)


class StepsSumTest(unittest.TestCase):

    def test_written_out(self):
        self.assertEqual(steps_sum(0), (0, 1))
        self.assertEqual(steps_sum(1), (1, 1))
        self.assertEqual(steps_sum(2), (3, 2))
        self.assertEqual(steps_sum(3), (11, 6))
        self.assertEqual(steps_sum(6), (49, 20))

    def test_up_to_eighty(self):
        total = Fraction(0)
        for count in range(81):
            if count > 0:
                total += Fraction(1, count)
            told = steps_sum(count)
            assert_shortest(self, told)
            self.assertEqual(as_fraction(told), total)


class UnchangedTest(unittest.TestCase):

    def test_like_askings_have_like_answers(self):
        one = (3, 4)
        other = (-5, 6)
        for reckon in (plus, minus, times, over, less):
            self.assertEqual(reckon(one, other), reckon(one, other))
        self.assertEqual((one, other), ((3, 4), (-5, 6)))


if __name__ == "__main__":
    unittest.main()
