"""Points 12 and 13, and point 2 where it speaks of these."""

import unittest

from goodenough.errors import NoLengths
from goodenough.lengths import look_at, roads_length, round_length, way_length
from helper import BAD_LENGTHS, assert_lengths_refused, assert_unchanged, length_tables, spoiled

GREATEST = 10 ** 18
# It keeps none of the rules, so that whoever looked at it would refuse it.
ODD_TABLE = [[7, 1, 90], [20, 5, 3], [4, 600, 11]]


def keeps_the_rules(lengths):
    places = range(len(lengths))
    return (all(lengths[a][a] == 0 for a in places)
            and all(lengths[a][b] == lengths[b][a] for a in places for b in places)
            and all(lengths[a][c] <= lengths[a][b] + lengths[b][c] for a in places for b in places for c in places))


class LookAtTest(unittest.TestCase):

    def test_good_ones(self):
        good = [[[0]], [[0, 0], [0, 0]], [[0, GREATEST], [GREATEST, 0]], [[0, 2, 4], [2, 0, 2], [4, 2, 0]],
                [[0, 0, 3], [0, 0, 3], [3, 3, 0]], [[0] * 12 for _ in range(12)],
                [[abs(a - b) for b in range(12)] for a in range(12)]]
        for lengths in good + length_tables(1, 60, 12, 9) + length_tables(2, 20, 12, GREATEST):
            self.assertIsNone(look_at(lengths))

    def test_bad_ones(self):
        assert_lengths_refused(self, look_at)

    def test_the_bad_ones_are_bad(self):
        for lengths in BAD_LENGTHS:
            self.assertFalse(keeps_the_rules(lengths))

    def test_broken_by_as_little_as_one(self):
        line = [[abs(a - b) for b in range(6)] for a in range(6)]
        for one in range(6):
            for other in range(one):
                if one - other > 1:
                    with self.assertRaises(NoLengths):
                        look_at(spoiled(line, one, other, 1))
        # Neighbours have no place between them, and may be somewhat farther apart.
        self.assertIsNone(look_at(spoiled([[0, 1, 1], [1, 0, 1], [1, 1, 0]], 0, 1, 1)))
        with self.assertRaises(NoLengths):
            look_at(spoiled([[0, 1, 1], [1, 0, 1], [1, 1, 0]], 0, 1, 2))

    def test_each_place_away_from_itself(self):
        for count in (1, 2, 5, 12):
            for place in range(count):
                lengths = [[5 * (a != b) for b in range(count)] for a in range(count)]
                self.assertIsNone(look_at(lengths))
                lengths[place][place] = 1
                with self.assertRaises(NoLengths):
                    look_at(lengths)

    def test_each_two_unlike_lengths(self):
        for count in (2, 3, 12):
            for one in range(count):
                for other in range(count):
                    if one != other:
                        lengths = [[5 * (a != b) for b in range(count)] for a in range(count)]
                        lengths[one][other] = 6
                        with self.assertRaises(NoLengths):
                            look_at(lengths)

    def test_all_small_tables(self):
        for number in range(4 ** 6):
            digits = [number // 4 ** k % 4 for k in range(6)]
            lengths = [[0, digits[0], digits[1]], [digits[2], 0, digits[3]], [digits[4], digits[5], 0]]
            if keeps_the_rules(lengths):
                self.assertIsNone(look_at(lengths))
            else:
                with self.assertRaises(NoLengths):
                    look_at(lengths)


class SumsTest(unittest.TestCase):

    def assert_whole(self, told, wanted):
        self.assertIs(type(told), int)
        self.assertEqual(told, wanted)

    def test_ways(self):
        self.assert_whole(way_length(ODD_TABLE, [0, 1, 2]), 4)
        self.assert_whole(way_length(ODD_TABLE, [2, 1, 0]), 620)
        self.assert_whole(way_length(ODD_TABLE, [1, 0]), 20)

    def test_ways_of_one_place(self):
        for place in range(3):
            self.assert_whole(way_length(ODD_TABLE, [place]), 0)
            self.assert_whole(round_length(ODD_TABLE, [place]), 0)

    def test_places_that_stand_twice(self):
        self.assert_whole(way_length(ODD_TABLE, [0, 1, 0, 1]), 22)
        self.assert_whole(way_length(ODD_TABLE, [0, 0]), 7)
        self.assert_whole(way_length(ODD_TABLE, [0, 0, 2, 2]), 7 + 90 + 11)
        self.assert_whole(round_length(ODD_TABLE, [0, 1, 0]), 1 + 20 + 7)
        self.assert_whole(round_length(ODD_TABLE, [1, 1]), 10)

    def test_rounds(self):
        self.assert_whole(round_length(ODD_TABLE, [0, 1, 2]), 8)
        self.assert_whole(round_length(ODD_TABLE, [2, 1, 0]), 710)
        self.assert_whole(round_length(ODD_TABLE, [0, 1]), 21)
        self.assert_whole(round_length([[0, 3], [3, 0]], [0, 1]), 6)

    def test_roads(self):
        self.assert_whole(roads_length(ODD_TABLE, []), 0)
        self.assert_whole(roads_length(ODD_TABLE, [(0, 1)]), 1)
        self.assert_whole(roads_length(ODD_TABLE, [(1, 0)]), 20)
        self.assert_whole(roads_length(ODD_TABLE, [(1, 0), (1, 0), (2, 1), (2, 2)]), 20 + 20 + 600 + 11)

    def test_great_lengths(self):
        far = [[0 if a == b else GREATEST for b in range(12)] for a in range(12)]
        self.assert_whole(way_length(far, list(range(12))), 11 * GREATEST)
        self.assert_whole(round_length(far, list(range(12))), 12 * GREATEST)
        self.assert_whole(roads_length(far, [(0, 1)] * 40), 40 * GREATEST)

    def test_they_look_at_nothing(self):
        for lengths in BAD_LENGTHS:
            self.assert_whole(way_length(lengths, [0]), 0)
            self.assert_whole(round_length(lengths, [0]), 0)
            self.assert_whole(roads_length(lengths, [(0, 0)]), lengths[0][0])


class UnchangedTest(unittest.TestCase):

    def test_given(self):
        assert_unchanged(self, look_at, ([[0, 3], [3, 0]],))
        assert_unchanged(self, way_length, (ODD_TABLE, [0, 2, 1]))
        assert_unchanged(self, round_length, (ODD_TABLE, [0, 2, 1]))
        assert_unchanged(self, roads_length, (ODD_TABLE, [(0, 2), (1, 1)]))


if __name__ == "__main__":
    unittest.main()
