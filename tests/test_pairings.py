"""Point 16, of point 4 what it says of the pairing, and point 2 where it speaks of these."""

import itertools
import unittest
from random import Random

from goodenough.lengths import roads_length, round_length
from goodenough.pairings import least_pairing, odd_ends
from goodenough.trees import least_tree
from helper import (all_pairings, assert_lengths_refused, assert_pairs, assert_unchanged, assert_whole_numbers,
                    length_tables, made_lengths)

GREATEST = 10 ** 18


class OddEndsTest(unittest.TestCase):

    def test_written_out(self):
        self.assertEqual(odd_ends([]), [])
        self.assertEqual(odd_ends([(0, 1)]), [0, 1])
        self.assertEqual(odd_ends([(5, 3)]), [3, 5])
        self.assertEqual(odd_ends([(0, 1), (1, 2)]), [0, 2])
        self.assertEqual(odd_ends([(0, 1), (1, 2), (2, 0)]), [])
        self.assertEqual(odd_ends([(0, 3), (0, 2), (0, 1)]), [0, 1, 2, 3])

    def test_roads_that_stand_twice(self):
        self.assertEqual(odd_ends([(0, 1), (0, 1)]), [])
        self.assertEqual(odd_ends([(0, 1), (1, 0)]), [])
        self.assertEqual(odd_ends([(0, 1), (1, 0), (0, 1)]), [0, 1])
        self.assertEqual(odd_ends([(2, 1), (2, 1), (1, 0)]), [0, 1])

    def test_seeded(self):
        random = Random(1)
        for _ in range(150):
            roads = [tuple(random.sample(range(12), 2)) for _ in range(random.randint(0, 40))]
            told = odd_ends(roads)
            assert_whole_numbers(self, told)
            self.assertEqual(told, [place for place in range(12) if sum(place in road for road in roads) % 2 == 1])
            self.assertEqual(len(told) % 2, 0)


class LeastPairingTest(unittest.TestCase):

    def assert_pairing(self, lengths, some):
        told = least_pairing(lengths, some)
        assert_pairs(self, told)
        self.assertEqual(told, sorted(told))
        for a, b in told:
            self.assertLess(a, b)
        self.assertEqual(sorted(place for pair in told for place in pair), sorted(some))
        return told

    def test_no_places(self):
        for lengths in ([[0]], [[0, 4], [4, 0]]):
            self.assertEqual(self.assert_pairing(lengths, []), [])

    def test_two_places(self):
        lengths = [[0, 4, 7], [4, 0, 6], [7, 6, 0]]
        self.assertEqual(self.assert_pairing(lengths, [0, 2]), [(0, 2)])
        self.assertEqual(self.assert_pairing(lengths, [2, 1]), [(1, 2)])

    def test_four_places_in_any_order(self):
        lengths = [[abs(a - b) for b in (0, 9, 1, 8, 50)] for a in (0, 9, 1, 8, 50)]
        for some in itertools.permutations([0, 1, 2, 3]):
            self.assertEqual(self.assert_pairing(lengths, list(some)), [(0, 2), (1, 3)])
        for some in itertools.permutations([4, 1, 2, 3]):
            self.assertEqual(self.assert_pairing(lengths, list(some)), [(1, 4), (2, 3)])

    def test_the_nearest_pair_is_not_always_in_it(self):
        # Pairing the two in the middle, one apart, would leave the outer ones, which are 41 apart.
        lengths = [[abs(a - b) for b in (0, 20, 21, 41)] for a in (0, 20, 21, 41)]
        self.assertEqual(roads_length(lengths, least_pairing(lengths, [0, 1, 2, 3])), 40)

    def test_the_same_each_time(self):
        random = Random(2)
        alike = [[3 * (a != b) for b in range(8)] for a in range(8)]
        first = self.assert_pairing(alike, list(range(8)))
        for _ in range(20):
            some = random.sample(range(8), 8)
            self.assertEqual(least_pairing(alike, some), first)

    def test_least_against_all_pairings(self):
        random = Random(3)
        for most in (0, 3, 30, GREATEST):
            for count in (2, 4, 5, 6, 8, 9, 10):
                lengths = made_lengths(random, count, most)
                for size in range(0, count + 1, 2):
                    some = random.sample(range(count), size)
                    told = roads_length(lengths, self.assert_pairing(lengths, some))
                    self.assertEqual(told, min(roads_length(lengths, pairs) for pairs in all_pairings(some)))

    def test_twelve_places(self):
        random = Random(4)
        for most in (2, 50, GREATEST):
            lengths = made_lengths(random, 12, most)
            some = random.sample(range(12), 12)
            told = roads_length(lengths, self.assert_pairing(lengths, some))
            self.assertEqual(told, min(roads_length(lengths, pairs) for pairs in all_pairings(some)))

    def test_twice_the_pairing_is_no_longer_than_any_round(self):
        for lengths in length_tables(5, 60, 6, 6) + length_tables(6, 20, 6, GREATEST):
            pairs = least_pairing(lengths, odd_ends(least_tree(lengths)))
            for rest in itertools.permutations(range(1, len(lengths))):
                self.assertLessEqual(2 * roads_length(lengths, pairs), round_length(lengths, [0] + list(rest)))

    def test_refused(self):
        assert_lengths_refused(self, lambda lengths: least_pairing(lengths, []))
        assert_lengths_refused(self, lambda lengths: least_pairing(lengths, [0, len(lengths) - 1]))


class UnchangedTest(unittest.TestCase):

    def test_given_and_told(self):
        for roads in ([], [(0, 1), (2, 1), (2, 1)]):
            assert_unchanged(self, odd_ends, (roads,))
        lengths = made_lengths(Random(7), 8, 20)
        for some in ([], [7, 0], [3, 1, 2, 0], [6, 5, 4, 7, 1, 0]):
            assert_unchanged(self, least_pairing, (lengths, some))


if __name__ == "__main__":
    unittest.main()
