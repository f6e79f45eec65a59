"""Points 20 and 21, the fifth item of point 4, and point 2 where it speaks of these."""

import unittest
from random import Random

from goodenough.bins import bin_bound, first_fit, greatest_first
from helper import all_puttings, assert_no_room, assert_unchanged, assert_whole_numbers, size_lists, sums_of

GREATEST = 10 ** 18


def seeded():
    random = Random(1)
    made = []
    for sizes in (size_lists(2, 80, 8, 6) + size_lists(3, 60, 20, 30) + size_lists(4, 20, 40, GREATEST)
                  + size_lists(5, 20, 40, 5)):
        least = max(sizes, default=1)
        made.append((sizes, random.randint(least, 3 * least)))
    return made


def put_by_the_rule(sizes, room, order):
    """Point 20 step by step, what lies in a bin being reckoned anew for each thing."""
    put = {}
    for number in order:
        chosen = 0
        while sum(sizes[other] for other in put if put[other] == chosen) + sizes[number] > room:
            chosen += 1
        put[number] = chosen
    return [put[number] for number in range(len(sizes))]


class PuttingTest(unittest.TestCase):

    def test_no_things(self):
        for put in (first_fit, greatest_first):
            told = put([], 1)
            self.assertIs(type(told), list)
            self.assertEqual(told, [])

    def test_things_of_just_the_room(self):
        self.assertEqual(first_fit([5, 5, 5], 5), [0, 1, 2])
        self.assertEqual(greatest_first([5, 5, 5], 5), [0, 1, 2])
        self.assertEqual(first_fit([2, 5, 3], 5), [0, 1, 0])

    def test_things_of_just_half_and_one_more(self):
        self.assertEqual(first_fit([5, 5, 5, 5], 10), [0, 0, 1, 1])
        self.assertEqual(first_fit([6, 5, 5, 6], 10), [0, 1, 1, 2])
        self.assertEqual(greatest_first([5, 6, 5, 6], 10), [2, 0, 2, 1])

    def test_like_sizes_in_the_lists_order(self):
        self.assertEqual(greatest_first([4, 4, 4, 4, 4], 9), [0, 0, 1, 1, 2])
        self.assertEqual(greatest_first([1, 3, 3], 4), [0, 0, 1])

    def test_the_first_bin_that_fits_not_the_fullest(self):
        self.assertEqual(first_fit([5, 8, 2], 10), [0, 1, 0])
        self.assertEqual(first_fit([8, 5, 2, 5], 10), [0, 1, 0, 1])

    def test_in_order_and_greatest_first_differ(self):
        self.assertEqual(first_fit([1, 1, 3, 3], 4), [0, 0, 1, 2])
        self.assertEqual(greatest_first([1, 1, 3, 3], 4), [0, 1, 0, 1])

    def test_great_sizes(self):
        sizes = [GREATEST, 1, GREATEST - 1, 1]
        self.assertEqual(first_fit(sizes, GREATEST), [0, 1, 1, 2])
        self.assertEqual(greatest_first(sizes, GREATEST), [0, 1, 1, 2])

    def test_seeded_against_the_rule(self):
        for sizes, room in seeded():
            told = first_fit(sizes, room)
            assert_whole_numbers(self, told)
            self.assertEqual(told, put_by_the_rule(sizes, room, range(len(sizes))))
            told = greatest_first(sizes, room)
            assert_whole_numbers(self, told)
            order = sorted(range(len(sizes)), key=lambda number: (-sizes[number], number))
            self.assertEqual(told, put_by_the_rule(sizes, room, order))

    def test_refused(self):
        for ask in (first_fit, greatest_first):
            assert_no_room(self, ask)


class BoundTest(unittest.TestCase):

    def test_written_out(self):
        for sizes, room, bound in (([], 1, 0), ([1], 1, 1), ([1], GREATEST, 1), ([5, 5, 5], 10, 2), ([5, 5], 10, 1),
                                   ([6, 6, 6], 10, 3), ([6, 5, 5, 6], 10, 3), ([5, 5, 5, 6], 11, 2),
                                   ([6, 6, 6], 11, 3), ([6, 6, 6], 12, 2), ([3] * 7, 10, 3),
                                   ([GREATEST] * 40, GREATEST, 40), ([GREATEST - 1, 2], GREATEST, 2)):
            told = bin_bound(sizes, room)
            self.assertIs(type(told), int)
            self.assertEqual(told, bound)

    def test_seeded(self):
        for sizes, room in seeded():
            great = sum(2 * size > room for size in sizes)
            self.assertEqual(bin_bound(sizes, room), max(great, -(-sum(sizes) // room)))

    def test_refused(self):
        assert_no_room(self, bin_bound)


class PromiseTest(unittest.TestCase):

    def assert_put(self, sizes, room, put):
        self.assertEqual(sorted(set(put)), list(range(len(set(put)))))
        for size in sums_of(sizes, put).values():
            self.assertLessEqual(size, room)

    def test_near_the_bound(self):
        for sizes, room in seeded():
            bound = bin_bound(sizes, room)
            self.assert_put(sizes, room, first_fit(sizes, room))
            self.assert_put(sizes, room, greatest_first(sizes, room))
            if sizes:
                self.assertLessEqual(len(set(first_fit(sizes, room))), 2 * bound - 1)
            self.assertLessEqual(2 * len(set(greatest_first(sizes, room))), 3 * bound)

    def test_near_the_best_of_all(self):
        random = Random(6)
        for sizes in size_lists(7, 120, 7, 7) + size_lists(8, 30, 6, GREATEST):
            least = max(sizes, default=1)
            room = random.randint(least, 2 * least)
            fewest = min(len(set(put)) for put in all_puttings(len(sizes), len(sizes))
                         if max(sums_of(sizes, put).values(), default=0) <= room)
            self.assertLessEqual(bin_bound(sizes, room), fewest)
            self.assertLessEqual(2 * len(set(greatest_first(sizes, room))), 3 * fewest)
            if sizes:
                self.assertLessEqual(len(set(first_fit(sizes, room))), 2 * fewest - 1)


class UnchangedTest(unittest.TestCase):

    def test_given_and_told(self):
        for sizes in ([], [3], [4, 1, 4, 9, 1, 7]):
            for ask in (first_fit, greatest_first, bin_bound):
                assert_unchanged(self, ask, (sizes, 10))


if __name__ == "__main__":
    unittest.main()
