"""Points 26 and 27, the seventh item of point 4, and point 2 where it speaks of these."""

import itertools
import unittest
from random import Random

from goodenough.places import far_apart, farthest_next, radius
from helper import assert_lengths_refused, assert_unchanged, assert_whole_numbers, length_tables

GREATEST = 10 ** 18


def seeded():
    return (length_tables(1, 60, 6, 3) + length_tables(2, 40, 12, 5) + length_tables(3, 30, 12, 90)
            + length_tables(4, 15, 12, GREATEST) + [[[0] * 12 for _ in range(12)]])


def chosen_by_the_rule(lengths, many):
    chosen = [0]
    while len(chosen) < many:
        rest = [place for place in range(len(lengths)) if place not in chosen]
        far = {place: min(lengths[place][other] for other in chosen) for place in rest}
        chosen.append(min(place for place in rest if far[place] == max(far.values())))
    return chosen


def radius_by_the_rule(lengths, some):
    return max(min(lengths[place][other] for other in some) for place in range(len(lengths)))


def line_of(spots):
    return [[abs(one - other) for other in spots] for one in spots]


class FarthestNextTest(unittest.TestCase):

    def test_one_place(self):
        self.assertEqual(farthest_next([[0]], 1), [0])
        self.assertEqual(far_apart([[0]], 1), [0])
        self.assertEqual(radius([[0]], [0]), 0)

    def test_written_out(self):
        lengths = line_of([5, 0, 9, 3])
        self.assertEqual(farthest_next(lengths, 1), [0])
        self.assertEqual(farthest_next(lengths, 2), [0, 1])
        self.assertEqual(farthest_next(lengths, 3), [0, 1, 2])
        self.assertEqual(farthest_next(line_of([5, 4, 10, 0]), 4), [0, 2, 3, 1])

    def test_like_lengths_choose_the_least_number(self):
        self.assertEqual(farthest_next([[2 * (a != b) for b in range(5)] for a in range(5)], 4), [0, 1, 2, 3])
        self.assertEqual(farthest_next(line_of([5, 6, 10, 0]), 3), [0, 2, 3])

    def test_all_alike_and_nought(self):
        self.assertEqual(farthest_next([[0] * 12 for _ in range(12)], 12), list(range(12)))

    def test_all_places_chosen(self):
        for lengths in seeded():
            self.assertEqual(sorted(farthest_next(lengths, len(lengths))), list(range(len(lengths))))
            self.assertEqual(far_apart(lengths, len(lengths)), farthest_next(lengths, len(lengths)))

    def test_seeded_against_the_rule(self):
        for lengths in seeded():
            for many in range(1, len(lengths) + 1):
                told = farthest_next(lengths, many)
                assert_whole_numbers(self, told)
                self.assertEqual(told, chosen_by_the_rule(lengths, many))

    def test_refused(self):
        assert_lengths_refused(self, lambda lengths: farthest_next(lengths, 1))
        assert_lengths_refused(self, lambda lengths: farthest_next(lengths, len(lengths)))


class RadiusTest(unittest.TestCase):

    def test_written_out(self):
        lengths = line_of([5, 0, 9, 3])
        for some, wanted in (([0], 5), ([1], 9), ([1, 2], 4), ([2, 1], 4), ([3, 3], 6), ([0, 1, 2, 3], 0),
                             ([2, 2, 1, 2], 4)):
            told = radius(lengths, some)
            self.assertIs(type(told), int)
            self.assertEqual(told, wanted)

    def test_seeded_with_places_named_twice(self):
        random = Random(5)
        for lengths in seeded():
            some = [random.randrange(len(lengths)) for _ in range(random.randint(1, 20))]
            self.assertEqual(radius(lengths, some), radius_by_the_rule(lengths, some))
            self.assertEqual(radius(lengths, some + some), radius_by_the_rule(lengths, some))

    def test_refused(self):
        assert_lengths_refused(self, lambda lengths: radius(lengths, [0]))
        assert_lengths_refused(self, lambda lengths: radius(lengths, [0, 0]))


class FarApartTest(unittest.TestCase):

    def test_written_out(self):
        lengths = line_of([5, 0, 9, 3])
        self.assertEqual(far_apart(lengths, 1), [0, 1])
        self.assertEqual(far_apart(lengths, 2), [0, 1, 2])
        self.assertEqual(far_apart(lengths, 3), [0, 1, 2, 3])
        self.assertEqual(far_apart(lengths, 4), [0, 1, 2, 3])

    def test_the_next_one_behind_the_chosen(self):
        for lengths in seeded():
            for many in range(1, len(lengths) + 1):
                told = far_apart(lengths, many)
                assert_whole_numbers(self, told)
                self.assertEqual(told, chosen_by_the_rule(lengths, min(many + 1, len(lengths))))

    def test_at_least_the_radius_apart(self):
        for lengths in seeded():
            for many in range(1, len(lengths)):
                told = radius(lengths, farthest_next(lengths, many))
                for one, other in itertools.combinations(far_apart(lengths, many), 2):
                    self.assertGreaterEqual(lengths[one][other], told)

    def test_refused(self):
        assert_lengths_refused(self, lambda lengths: far_apart(lengths, 1))
        assert_lengths_refused(self, lambda lengths: far_apart(lengths, len(lengths)))


class PromiseTest(unittest.TestCase):

    def test_near_the_best_of_all(self):
        for lengths in length_tables(6, 60, 7, 6) + length_tables(7, 20, 7, GREATEST):
            for many in range(1, len(lengths) + 1):
                told = radius(lengths, farthest_next(lengths, many))
                choices = itertools.combinations(range(len(lengths)), many)
                best = min(radius_by_the_rule(lengths, some) for some in choices)
                self.assertLessEqual(told, 2 * best)
                if many < len(lengths):
                    far = far_apart(lengths, many)
                    apart = min(lengths[one][other] for one, other in itertools.combinations(far, 2))
                    self.assertLessEqual(told, apart)
                    self.assertLessEqual(apart, 2 * best)


class UnchangedTest(unittest.TestCase):

    def test_given_and_told(self):
        for lengths in [[[0]]] + length_tables(8, 5, 8, 6):
            for ask in (farthest_next, far_apart):
                assert_unchanged(self, ask, (lengths, 1))
                assert_unchanged(self, ask, (lengths, len(lengths)))
            assert_unchanged(self, radius, (lengths, [0, len(lengths) - 1, 0]))


if __name__ == "__main__":
    unittest.main()
