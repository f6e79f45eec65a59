"""Points 18 and 19, the fourth item of point 4, and point 2 where it speaks of these."""

import unittest
from fractions import Fraction
from random import Random

from goodenough.benches import bench_bound, heaviest, put_in_order, put_longest_first
from helper import all_puttings, assert_unchanged, assert_whole_numbers, size_lists, sums_of

GREATEST = 10 ** 18


def seeded():
    random = Random(1)
    works = (size_lists(2, 60, 8, 4) + size_lists(3, 60, 20, 30) + size_lists(4, 20, 40, GREATEST)
             + size_lists(5, 20, 40, 3))
    return [(one, random.choice((1, 2, 3, 4, 7, 20))) for one in works]


def put_by_the_rule(works, many, order):
    """Point 18 step by step, the sums being reckoned anew for each work."""
    put = {}
    for number in order:
        sums = [sum(works[other] for other in put if put[other] == bench) for bench in range(many)]
        put[number] = min(range(many), key=lambda bench: (sums[bench], bench))
    return [put[number] for number in range(len(works))]


def bound_by_the_rule(works, many):
    bounds = [0]
    if works:
        bounds.append(-(-sum(works) // many))
        bounds.append(max(works))
    if len(works) > many:
        rest = sorted(works)
        rest.reverse()
        bounds.append(rest[many - 1] + rest[many])
    return max(bounds)


class PuttingTest(unittest.TestCase):

    def test_no_works(self):
        for many in (1, 3, 20):
            for put in (put_in_order, put_longest_first):
                told = put([], many)
                self.assertIs(type(told), list)
                self.assertEqual(told, [])
            self.assertEqual(heaviest([], many, []), 0)

    def test_fewer_works_than_benches(self):
        self.assertEqual(put_in_order([4, 1, 9], 5), [0, 1, 2])
        self.assertEqual(put_longest_first([4, 1, 9], 5), [1, 2, 0])

    def test_as_many_works_as_benches(self):
        self.assertEqual(put_in_order([4, 1, 9], 3), [0, 1, 2])
        self.assertEqual(put_longest_first([4, 1, 9], 3), [1, 2, 0])

    def test_one_more_work_than_benches(self):
        self.assertEqual(put_in_order([4, 1, 9, 2], 3), [0, 1, 2, 1])
        self.assertEqual(put_longest_first([4, 1, 9, 2], 3), [1, 2, 0, 2])

    def test_like_works(self):
        self.assertEqual(put_in_order([2] * 7, 3), [0, 1, 2, 0, 1, 2, 0])
        self.assertEqual(put_longest_first([2] * 7, 3), [0, 1, 2, 0, 1, 2, 0])
        # Of the two greatest, which are alike, the first in the list goes first.
        self.assertEqual(put_longest_first([1, 5, 5], 2), [0, 0, 1])

    def test_in_order_and_longest_first_differ(self):
        self.assertEqual(put_in_order([1, 1, 2], 2), [0, 1, 0])
        self.assertEqual(put_longest_first([1, 1, 2], 2), [1, 1, 0])
        self.assertEqual(heaviest([1, 1, 2], 2, [0, 1, 0]), 3)
        self.assertEqual(heaviest([1, 1, 2], 2, [1, 1, 0]), 2)

    def test_great_works(self):
        works = [GREATEST - 1, GREATEST, 1, 1]
        self.assertEqual(put_in_order(works, 2), [0, 1, 0, 0])
        self.assertEqual(put_longest_first(works, 2), [1, 0, 1, 0])
        self.assertEqual(heaviest(works, 2, [0, 1, 0, 0]), GREATEST + 1)

    def test_one_bench_and_twenty(self):
        works = list(range(1, 41))
        self.assertEqual(put_in_order(works, 1), [0] * 40)
        self.assertEqual(put_longest_first(works, 1), [0] * 40)
        self.assertEqual(put_in_order(works, 20), list(range(20)) * 2)
        self.assertEqual(put_longest_first(works, 20), list(range(20)) + list(range(19, -1, -1)))

    def test_seeded_against_the_rule(self):
        for works, many in seeded():
            told = put_in_order(works, many)
            assert_whole_numbers(self, told)
            self.assertEqual(told, put_by_the_rule(works, many, range(len(works))))
            told = put_longest_first(works, many)
            assert_whole_numbers(self, told)
            order = sorted(range(len(works)), key=lambda number: (-works[number], number))
            self.assertEqual(told, put_by_the_rule(works, many, order))

    def test_heaviest_of_any_putting(self):
        random = Random(6)
        for works, many in seeded():
            put = [random.randrange(many) for _ in works]
            told = heaviest(works, many, put)
            self.assertIs(type(told), int)
            self.assertEqual(told, max(sums_of(works, put).values(), default=0))


class BoundTest(unittest.TestCase):

    def test_without_works(self):
        self.assertEqual(bench_bound([], 1), 0)
        self.assertEqual(bench_bound([], 20), 0)

    def test_the_sum_rounded_up(self):
        self.assertEqual(bench_bound([3, 3, 3, 3, 3, 3, 3], 1), 21)
        self.assertEqual(bench_bound([1] * 7, 3), 3)
        self.assertEqual(bench_bound([1] * 6, 3), 2)

    def test_the_longest_work(self):
        self.assertEqual(bench_bound([1, 9, 1], 2), 9)
        self.assertEqual(bench_bound([7, 7], 2), 7)
        self.assertEqual(bench_bound([5], 20), 5)

    def test_the_two_that_share_a_bench(self):
        self.assertEqual(bench_bound([5, 5, 5], 2), 10)
        self.assertEqual(bench_bound([5, 1, 4, 3], 3), 5)
        self.assertEqual(bench_bound([4, 4, 3, 3], 3), 6)
        # As many works as benches: none has to share.
        self.assertEqual(bench_bound([4, 4, 3], 3), 4)

    def test_great_works(self):
        self.assertEqual(bench_bound([GREATEST] * 40, 20), 2 * GREATEST)
        self.assertEqual(bench_bound([GREATEST] * 40 + [1], 20), 2 * GREATEST + 1)

    def test_seeded_against_the_rule(self):
        for works, many in seeded():
            told = bench_bound(works, many)
            self.assertIs(type(told), int)
            self.assertEqual(told, bound_by_the_rule(works, many))


class PromiseTest(unittest.TestCase):

    def test_near_the_best_of_all(self):
        random = Random(7)
        for works in size_lists(8, 100, 7, 6) + size_lists(9, 30, 7, GREATEST):
            many = random.randint(1, 4)
            best = min(max(sums_of(works, put).values(), default=0) for put in all_puttings(len(works), many))
            bound = bench_bound(works, many)
            self.assertLessEqual(bound, best)
            self.assertLessEqual(heaviest(works, many, put_in_order(works, many)),
                                 (2 - Fraction(1, many)) * best)
            self.assertLessEqual(heaviest(works, many, put_longest_first(works, many)),
                                 (Fraction(4, 3) - Fraction(1, 3 * many)) * best)

    def test_longest_first_near_the_bound(self):
        tight = [([2 * m - 1 - k // 2 for k in range(2 * m)] + [m], m) for m in range(1, 13)]
        for works, many in seeded() + tight:
            self.assertLessEqual(heaviest(works, many, put_longest_first(works, many)),
                                 (Fraction(3, 2) - Fraction(1, 2 * many)) * bench_bound(works, many))


class UnchangedTest(unittest.TestCase):

    def test_given_and_told(self):
        for works in ([], [3], [4, 1, 4, 9, 1, 7]):
            for ask in (put_in_order, put_longest_first, bench_bound):
                assert_unchanged(self, ask, (works, 3))
            assert_unchanged(self, heaviest, (works, 3, [0, 2, 1, 1, 0, 2][:len(works)]))


if __name__ == "__main__":
    unittest.main()
