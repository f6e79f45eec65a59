"""Whether roads hang all places together, which the checker of rounds has to know."""

import itertools
import unittest

from goodenough.hangs import hang_together
from helper import assert_unchanged
from helper import hang_together as grown_together


class HangTogetherTest(unittest.TestCase):

    def test_written_out(self):
        for count, roads, wanted in ((1, [], True), (2, [], False), (2, [(1, 0)], True), (3, [(0, 1)], False),
                                     (3, [(2, 1), (0, 2)], True), (3, [(0, 1), (1, 0)], False), (2, [(0, 0)], False),
                                     (4, [(2, 3), (0, 1), (1, 3)], True), (4, [(0, 1), (1, 2), (2, 0)], False)):
            self.assertIs(hang_together(count, roads), wanted)

    def test_all_roads_of_few_places(self):
        for count in range(1, 5):
            pairs = list(itertools.combinations(range(count), 2))
            for size in range(len(pairs) + 1):
                for roads in itertools.combinations(pairs, size):
                    self.assertIs(hang_together(count, list(roads)), grown_together(count, roads))

    def test_unchanged(self):
        assert_unchanged(self, hang_together, (4, [(2, 3), (0, 1), (1, 3)]))


if __name__ == "__main__":
    unittest.main()
