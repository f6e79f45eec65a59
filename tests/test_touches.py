"""Points 10 and 11, the second item of point 4, and point 2 where it speaks of these."""

import itertools
import unittest

from goodenough.covers import cover, price_of
from goodenough.touches import as_sets, line_prices, touching
from helper import assert_unchanged, assert_whole_numbers, touch_questions

GREATEST = 10 ** 18


def seeded():
    return (touch_questions(1, 150, 6, 9, 3) + touch_questions(2, 80, 8, 12, 20)
            + touch_questions(3, 40, 8, 12, GREATEST) + touch_questions(4, 10, 40, 80, 9))


def told_by_the_rule(prices, lines):
    """Point 10 step by step: at each line, what both ends have left is reckoned anew from what was paid."""
    paid = []
    for number, line in enumerate(lines):
        left = []
        for point in line:
            before = sum(paid[k] for k in range(number) if point in lines[k])
            left.append(prices[point] - before)
        paid.append(min(left))
    return paid


def all_touchings(prices, lines):
    for size in range(len(prices) + 1):
        for points in itertools.combinations(range(len(prices)), size):
            if all(a in points or b in points for a, b in lines):
                yield points


class LinesPayTest(unittest.TestCase):

    def test_written_out(self):
        prices = [3, 5, 4, 9]
        lines = [(0, 1), (1, 2), (2, 3)]
        self.assertEqual(line_prices(prices, lines), [3, 2, 2])
        self.assertEqual(touching(prices, lines), [0, 1, 2])

    def test_the_order_of_lines_matters(self):
        prices = [3, 5, 4, 9]
        lines = [(2, 3), (1, 2), (0, 1)]
        self.assertEqual(line_prices(prices, lines), [4, 0, 3])
        self.assertEqual(touching(prices, lines), [0, 2])

    def test_either_end_may_stand_first(self):
        self.assertEqual(line_prices([3, 5, 4], [(1, 0), (2, 1)]), [3, 2])
        self.assertEqual(line_prices([3, 5, 4], [(0, 1), (1, 2)]), [3, 2])

    def test_prices_of_nought(self):
        self.assertEqual(line_prices([0, 5, 0], [(0, 1), (1, 2), (0, 2)]), [0, 0, 0])
        self.assertEqual(touching([0, 5, 0], [(0, 1), (1, 2), (0, 2)]), [0, 2])
        self.assertEqual(touching([0, 0], [(1, 0)]), [0, 1])

    def test_like_prices(self):
        self.assertEqual(line_prices([4, 4, 4, 4], [(3, 0), (1, 2), (0, 1)]), [4, 4, 0])
        self.assertEqual(touching([4, 4, 4, 4], [(3, 0), (1, 2), (0, 1)]), [0, 1, 2, 3])

    def test_great_prices(self):
        prices = [GREATEST, GREATEST - 1, GREATEST]
        self.assertEqual(line_prices(prices, [(0, 1), (0, 2), (1, 2)]), [GREATEST - 1, 1, 0])
        self.assertEqual(touching(prices, [(0, 1), (0, 2), (1, 2)]), [0, 1])

    def test_the_same_line_twice(self):
        self.assertEqual(line_prices([3, 7], [(0, 1), (0, 1), (1, 0)]), [3, 0, 0])
        self.assertEqual(touching([3, 7], [(0, 1), (0, 1), (1, 0)]), [0])

    def test_points_without_a_line(self):
        self.assertEqual(touching([0, 3, 0, 4, 0], [(3, 1)]), [1])
        self.assertEqual(touching([0, 0, 0], [(0, 2)]), [0, 2])

    def test_no_lines_at_all(self):
        for prices in ([], [0], [5, 0, GREATEST]):
            self.assertEqual(line_prices(prices, []), [])
            self.assertEqual(touching(prices, []), [])

    def test_told_rising(self):
        lines = [(5, 4), (3, 2), (1, 0)]
        self.assertEqual(touching([9, 1, 9, 2, 9, 3], lines), [1, 3, 5])
        self.assertEqual(touching([1] * 40, [(39 - k, k) for k in range(20)]), list(range(40)))

    def test_seeded_against_the_rule(self):
        for prices, lines in seeded():
            paid = told_by_the_rule(prices, lines)
            told = line_prices(prices, lines)
            assert_whole_numbers(self, told)
            self.assertEqual(told, paid)
            points = touching(prices, lines)
            assert_whole_numbers(self, points)
            spent = [sum(pay for pay, line in zip(paid, lines) if point in line) for point in range(len(prices))]
            self.assertEqual(points, [point for point in range(len(prices))
                                      if spent[point] == prices[point] and any(point in line for line in lines)])


class PromiseTest(unittest.TestCase):

    def test_no_point_is_paid_more_than_its_price(self):
        for prices, lines in seeded():
            paid = line_prices(prices, lines)
            for point, price in enumerate(prices):
                self.assertLessEqual(sum(pay for pay, line in zip(paid, lines) if point in line), price)

    def test_each_line_has_an_end_among_them(self):
        for prices, lines in seeded():
            points = touching(prices, lines)
            for a, b in lines:
                self.assertTrue(a in points or b in points)

    def test_at_most_twice_what_the_lines_pay(self):
        for prices, lines in seeded():
            cost = sum(prices[point] for point in touching(prices, lines))
            self.assertLessEqual(cost, 2 * sum(line_prices(prices, lines)))

    def test_near_the_best_of_all(self):
        for prices, lines in touch_questions(5, 120, 6, 8, 5) + touch_questions(6, 40, 6, 8, GREATEST):
            told = touching(prices, lines)
            touchings = list(all_touchings(prices, lines))
            self.assertIn(tuple(told), touchings)
            cost = sum(prices[point] for point in told)
            bound = sum(line_prices(prices, lines))
            for points in touchings:
                other = sum(prices[point] for point in points)
                self.assertLessEqual(cost, 2 * other)
                self.assertLessEqual(bound, other)


class AsSetsTest(unittest.TestCase):

    def test_written_out(self):
        prices = [3, 0, 4, 9]
        lines = [(2, 0), (0, 1), (2, 0)]
        self.assertEqual(as_sets(prices, lines), [(3, [0, 1, 2]), (0, [1]), (4, [0, 2]), (9, [])])

    def test_without_lines_or_points(self):
        self.assertEqual(as_sets([], []), [])
        self.assertEqual(as_sets([7, 0], []), [(7, []), (0, [])])

    def test_kinds_and_lines_rising(self):
        for prices, lines in seeded():
            told = as_sets(prices, lines)
            self.assertIs(type(told), list)
            self.assertEqual(len(told), len(prices))
            for point, one in enumerate(told):
                self.assertIs(type(one), tuple)
                self.assertEqual(one[0], prices[point])
                assert_whole_numbers(self, one[1])
                self.assertEqual(one[1], [k for k, line in enumerate(lines) if point in line])

    def test_each_list_by_itself(self):
        told = as_sets([1, 2, 3], [(0, 1)])
        told[0][1].append(99)
        told[2][1].append(98)
        self.assertEqual(told, [(1, [0, 99]), (2, [0]), (3, [98])])
        self.assertEqual(as_sets([1, 2, 3], [(0, 1)]), [(1, [0]), (2, [0]), (3, [])])

    def test_covers_of_them_are_touchings(self):
        for prices, lines in touch_questions(7, 60, 6, 8, 5):
            sets = as_sets(prices, lines)
            taken = cover(len(lines), sets)
            self.assertIn(tuple(sorted(taken)), list(all_touchings(prices, lines)))
            self.assertEqual(price_of(sets, taken), sum(prices[point] for point in taken))


class UnchangedTest(unittest.TestCase):

    def test_given_and_told(self):
        for given in (([3, 0, 4, 4], [(2, 0), (0, 1), (2, 0), (3, 2)]), ([], []), ([5], [])):
            for ask in (line_prices, touching, as_sets):
                assert_unchanged(self, ask, given)


if __name__ == "__main__":
    unittest.main()
