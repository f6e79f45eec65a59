"""Point 17, of point 4 what it says of rounds, and point 2 where it speaks of these."""

import unittest
from collections import Counter

from goodenough.lengths import roads_length, round_length, way_length
from goodenough.pairings import least_pairing, odd_ends
from goodenough.rounds import closed_walk, paired_round
from goodenough.trees import least_tree, walked_round
from helper import all_rounds, assert_lengths_refused, assert_unchanged, assert_whole_numbers, length_tables

GREATEST = 10 ** 18


def seeded():
    return (length_tables(1, 60, 6, 3) + length_tables(2, 60, 12, 4) + length_tables(3, 40, 12, 90)
            + length_tables(4, 20, 12, GREATEST) + [[[0] * 12 for _ in range(12)]]
            + [[[abs(a - b) for b in range(12)] for a in range(12)]])


class ClosedWalkTest(unittest.TestCase):

    def test_one_place(self):
        self.assertEqual(closed_walk([[0]]), [0])

    def test_two_places_by_a_road_and_a_pair(self):
        for length in (0, 1, GREATEST):
            self.assertEqual(closed_walk([[0, length], [length, 0]]), [0, 1, 0])

    def test_three_places(self):
        told = closed_walk([[0, 2, 4], [2, 0, 2], [4, 2, 0]])
        self.assertIn(told, ([0, 1, 2, 0], [0, 2, 1, 0]))

    def test_a_road_and_a_pair_between_the_same_places(self):
        # All roads go from 0; of its four odd ends 0 is paired with one of the others.
        star = [[0 if a == b else 1 + (a > 0) * (b > 0) for b in range(4)] for a in range(4)]
        roads = least_tree(star)
        pairs = least_pairing(star, odd_ends(roads))
        self.assertTrue(set(roads) & set(pairs))
        self.assert_just_once(star)

    def assert_just_once(self, lengths):
        told = closed_walk(lengths)
        assert_whole_numbers(self, told)
        self.assertEqual((told[0], told[-1]), (0, 0))
        roads = least_tree(lengths)
        wanted = Counter(tuple(sorted(road)) for road in roads + least_pairing(lengths, odd_ends(roads)))
        gone = Counter(tuple(sorted(told[k:k + 2])) for k in range(len(told) - 1))
        self.assertEqual(gone, wanted)

    def test_along_each_road_and_pair_just_once(self):
        both = 0
        for lengths in seeded():
            self.assert_just_once(lengths)
            roads = least_tree(lengths)
            pairs = least_pairing(lengths, odd_ends(roads))
            both += any(tuple(sorted(road)) in pairs for road in roads)
        self.assertGreater(both, 10)

    def test_as_long_as_both_together(self):
        for lengths in seeded():
            roads = least_tree(lengths)
            pairs = least_pairing(lengths, odd_ends(roads))
            self.assertEqual(way_length(lengths, closed_walk(lengths)),
                             roads_length(lengths, roads) + roads_length(lengths, pairs))

    def test_refused(self):
        assert_lengths_refused(self, closed_walk)


class PairedRoundTest(unittest.TestCase):

    def test_small_ones(self):
        self.assertEqual(paired_round([[0]]), [0])
        self.assertEqual(paired_round([[0, 4], [4, 0]]), [0, 1])

    def test_places_as_they_first_come(self):
        for lengths in seeded():
            walk = closed_walk(lengths)
            told = paired_round(lengths)
            assert_whole_numbers(self, told)
            self.assertEqual(told, [place for k, place in enumerate(walk) if place not in walk[:k]])
            self.assertEqual(sorted(told), list(range(len(lengths))))
            self.assertEqual(told[0], 0)

    def test_no_longer_than_roads_and_pairs(self):
        for lengths in seeded():
            roads = least_tree(lengths)
            pairs = least_pairing(lengths, odd_ends(roads))
            self.assertLessEqual(round_length(lengths, paired_round(lengths)),
                                 roads_length(lengths, roads) + roads_length(lengths, pairs))

    def test_near_the_best_of_all(self):
        for lengths in length_tables(5, 80, 7, 5) + length_tables(6, 20, 6, GREATEST):
            paired = round_length(lengths, paired_round(lengths))
            walked = round_length(lengths, walked_round(lengths))
            roads = least_tree(lengths)
            tree = roads_length(lengths, roads)
            pairing = roads_length(lengths, least_pairing(lengths, odd_ends(roads)))
            best = min(round_length(lengths, way) for way in all_rounds(len(lengths)))
            self.assertLessEqual(2 * paired, 3 * best)
            self.assertLessEqual(walked, 2 * best)
            self.assertLessEqual(tree, best)
            self.assertLessEqual(2 * pairing, best)

    def test_refused(self):
        assert_lengths_refused(self, paired_round)


class UnchangedTest(unittest.TestCase):

    def test_given_and_told(self):
        for lengths in [[[0]]] + length_tables(7, 6, 9, 6):
            for ask in (closed_walk, paired_round):
                assert_unchanged(self, ask, (lengths,))


if __name__ == "__main__":
    unittest.main()
