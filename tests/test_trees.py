"""Points 14 and 15, of point 4 what it says of the tree and its round, and point 2 where it speaks of these."""

import itertools
import unittest

from goodenough.lengths import roads_length, round_length
from goodenough.trees import least_tree, walked_round
from helper import (assert_lengths_refused, assert_pairs, assert_unchanged, assert_whole_numbers, hang_together,
                    length_tables)

GREATEST = 10 ** 18


def seeded():
    return (length_tables(1, 80, 6, 3) + length_tables(2, 60, 12, 4) + length_tables(3, 30, 12, 90)
            + length_tables(4, 20, 12, GREATEST) + [[[0] * 12 for _ in range(12)]])


def tree_by_the_rule(lengths):
    """Point 14 step by step: of the shortest roads the least place without, then the least place within."""
    within = {0}
    roads = []
    while len(within) < len(lengths):
        offers = [(a, b) for a in sorted(within) for b in range(len(lengths)) if b not in within]
        least = min(lengths[a][b] for a, b in offers)
        offers = [(a, b) for a, b in offers if lengths[a][b] == least]
        outer = min(b for a, b in offers)
        inner = min(a for a, b in offers if b == outer)
        roads.append((inner, outer))
        within.add(outer)
    return roads


def round_by_the_rule(roads, place=0):
    """Point 15: a place, and behind it all that comes behind it, road by road."""
    walked = [place]
    for inner, outer in roads:
        if inner == place:
            walked += round_by_the_rule(roads, outer)
    return walked


def all_roads_together(count):
    """All trees of so many places: these are the fewest roads that hang them together."""
    pairs = list(itertools.combinations(range(count), 2))
    for roads in itertools.combinations(pairs, count - 1):
        if hang_together(count, roads):
            yield roads


class LeastTreeTest(unittest.TestCase):

    def test_one_place(self):
        self.assertEqual(least_tree([[0]]), [])

    def test_two_places(self):
        self.assertEqual(least_tree([[0, 0], [0, 0]]), [(0, 1)])
        self.assertEqual(least_tree([[0, GREATEST], [GREATEST, 0]]), [(0, 1)])

    def test_written_out(self):
        lengths = [[0, 5, 2, 6], [5, 0, 3, 4], [2, 3, 0, 4], [6, 4, 4, 0]]
        # 2 from 0; 1 from 2; then 3 from 1 and from 2 alike, of which 1 is the lesser within.
        self.assertEqual(least_tree(lengths), [(0, 2), (2, 1), (1, 3)])

    def test_like_lengths_take_the_least_without(self):
        self.assertEqual(least_tree([[4 * (a != b) for b in range(4)] for a in range(4)]), [(0, 1), (0, 2), (0, 3)])

    def test_the_place_without_goes_before_the_place_within(self):
        # Behind (0, 3) the roads (3, 1) and (0, 2) are alike: 1 is the lesser without, though 3 is within.
        lengths = [[0, 5, 3, 2], [5, 0, 4, 3], [3, 4, 0, 4], [2, 3, 4, 0]]
        self.assertEqual(least_tree(lengths), [(0, 3), (3, 1), (0, 2)])

    def test_the_least_within_though_taken_later(self):
        # 3 is taken before 1; both are alike near to 2.
        lengths = [[0, 3, 6, 2], [3, 0, 4, 4], [6, 4, 0, 4], [2, 4, 4, 0]]
        self.assertEqual(least_tree(lengths), [(0, 3), (0, 1), (1, 2)])

    def test_lengths_of_nought(self):
        self.assertEqual(least_tree([[0, 0, 3], [0, 0, 3], [3, 3, 0]]), [(0, 1), (0, 2)])

    def test_seeded_against_the_rule(self):
        for lengths in seeded():
            told = least_tree(lengths)
            assert_pairs(self, told)
            self.assertEqual(told, tree_by_the_rule(lengths))
            self.assertTrue(hang_together(len(lengths), told))

    def test_no_shorter_roads_hang_all_together(self):
        trees = {count: list(all_roads_together(count)) for count in range(1, 6)}
        for lengths in length_tables(5, 60, 5, 4) + length_tables(6, 30, 5, GREATEST):
            told = roads_length(lengths, least_tree(lengths))
            self.assertEqual(told, min(roads_length(lengths, roads) for roads in trees[len(lengths)]))

    def test_no_road_can_be_put_in_for_another(self):
        # For more places: whatever road is taken out, no shorter one hangs the two parts together.
        for lengths in seeded():
            told = least_tree(lengths)
            pairs = list(itertools.combinations(range(len(lengths)), 2))
            for k, (a, b) in enumerate(told):
                rest = told[:k] + told[k + 1:]
                joining = [lengths[c][d] for c, d in pairs if hang_together(len(lengths), rest + [(c, d)])]
                self.assertEqual(lengths[a][b], min(joining))

    def test_refused(self):
        assert_lengths_refused(self, least_tree)


class WalkedRoundTest(unittest.TestCase):

    def test_small_ones(self):
        self.assertEqual(walked_round([[0]]), [0])
        self.assertEqual(walked_round([[0, 7], [7, 0]]), [0, 1])

    def test_written_out(self):
        # The tree's roads are (0, 3), (3, 1), (0, 2): 1 hangs behind 3, and so comes before 2.
        lengths = [[0, 5, 3, 2], [5, 0, 4, 3], [3, 4, 0, 4], [2, 3, 4, 0]]
        self.assertEqual(walked_round(lengths), [0, 3, 1, 2])

    def test_the_order_of_the_roads_not_of_the_numbers(self):
        lengths = [[0, 3, 2, 1], [3, 0, 5, 4], [2, 5, 0, 3], [1, 4, 3, 0]]
        self.assertEqual(least_tree(lengths), [(0, 3), (0, 2), (0, 1)])
        self.assertEqual(walked_round(lengths), [0, 3, 2, 1])

    def test_all_behind_a_place_come_first(self):
        line = [[abs(a - b) for b in (6, 0, 10, 5, 9, 4)] for a in (6, 0, 10, 5, 9, 4)]
        self.assertEqual(least_tree(line), [(0, 3), (3, 5), (0, 4), (4, 2), (5, 1)])
        self.assertEqual(walked_round(line), [0, 3, 5, 1, 4, 2])

    def test_seeded_against_the_rule(self):
        for lengths in seeded():
            told = walked_round(lengths)
            assert_whole_numbers(self, told)
            self.assertEqual(told[0], 0)
            self.assertEqual(sorted(told), list(range(len(lengths))))
            self.assertEqual(told, round_by_the_rule(tree_by_the_rule(lengths)))

    def test_at_most_twice_the_tree(self):
        for lengths in seeded():
            self.assertLessEqual(round_length(lengths, walked_round(lengths)),
                                 2 * roads_length(lengths, least_tree(lengths)))

    def test_near_the_best_of_all(self):
        for lengths in length_tables(7, 60, 6, 5) + length_tables(8, 20, 6, GREATEST):
            told = round_length(lengths, walked_round(lengths))
            tree = roads_length(lengths, least_tree(lengths))
            for rest in itertools.permutations(range(1, len(lengths))):
                other = round_length(lengths, [0] + list(rest))
                self.assertLessEqual(told, 2 * other)
                self.assertLessEqual(tree, other)

    def test_refused(self):
        assert_lengths_refused(self, walked_round)


class UnchangedTest(unittest.TestCase):

    def test_given_and_told(self):
        for lengths in [[[0]]] + length_tables(9, 5, 8, 9):
            for ask in (least_tree, walked_round):
                assert_unchanged(self, ask, (lengths,))


if __name__ == "__main__":
    unittest.main()
