"""Point 25, of the sixth item of point 4 what it says of rounded worths, and point 2 where it speaks of these."""

import unittest

from goodenough.rounded import by_rounded, rounding_step
from helper import all_fillings, assert_unchanged, assert_whole_numbers, sack_questions

GREATEST = 10 ** 18


def seeded():
    return (sack_questions(1, 60, 7, 6, 6) + sack_questions(2, 40, 8, 900, 20) + sack_questions(3, 30, 8, GREATEST, 9)
            + sack_questions(4, 20, 7, GREATEST, GREATEST) + sack_questions(5, 3, 12, 10 ** 6, 9))


class RoundingStepTest(unittest.TestCase):

    def test_written_out(self):
        things = [(100, 2), (37, 3), (900, 9)]
        for room, parts, step in ((8, 2, 25), (8, 3, 16), (8, 8, 6), (9, 2, 150), (2, 2, 50), (1, 2, 1), (0, 8, 1)):
            told = rounding_step(room, things, parts)
            self.assertIs(type(told), int)
            self.assertEqual(told, step)

    def test_no_less_than_one(self):
        self.assertEqual(rounding_step(5, [(3, 1), (0, 1)], 2), 1)
        self.assertEqual(rounding_step(5, [(4, 1), (0, 1)], 2), 1)
        self.assertEqual(rounding_step(5, [(8, 1), (0, 1)], 2), 2)
        self.assertEqual(rounding_step(5, [(0, 1)], 8), 1)
        self.assertEqual(rounding_step(5, [], 4), 1)
        self.assertEqual(rounding_step(5, [(99, 6)], 4), 1)

    def test_seeded(self):
        for room, things in seeded():
            worths = [worth for worth, weight in things if weight <= room]
            for parts in range(2, 9):
                wanted = max(1, max(worths) // (len(worths) * parts)) if worths else 1
                self.assertEqual(rounding_step(room, things, parts), wanted)


class ByRoundedTest(unittest.TestCase):

    def test_nothing_to_take(self):
        for room, things in ((0, []), (7, []), (0, [(5, 1)]), (3, [(5, 4), (6, 9)])):
            for parts in range(2, 9):
                told = by_rounded(room, things, parts)
                self.assertIs(type(told), list)
                self.assertEqual(told, [])

    def test_one_best(self):
        self.assertEqual(by_rounded(6, [(6, 3), (9, 4), (7, 3)]), [0, 2])
        self.assertEqual(by_rounded(5, [(6, 3), (9, 4), (7, 3), (1, 1)]), [1, 3])
        self.assertEqual(by_rounded(10 ** 18, [(GREATEST, GREATEST), (1, 1)]), [0])

    def test_parts_left_out_are_four(self):
        for room, things in seeded():
            self.assertEqual(by_rounded(room, things), by_rounded(room, things, 4))

    def test_worths_of_nought(self):
        told = by_rounded(4, [(0, 2), (0, 3)])
        self.assertIn(tuple(told), list(all_fillings(4, [(0, 2), (0, 3)])))

    def test_the_most_of_all_fillings(self):
        for room, things in seeded():
            fillings = list(all_fillings(room, things))
            for parts in range(2, 9):
                step = rounding_step(room, things, parts)
                told = by_rounded(room, things, parts)
                assert_whole_numbers(self, told)
                self.assertIn(tuple(told), fillings)
                most = max(sum(things[number][0] // step for number in taken) for taken in fillings)
                self.assertEqual(sum(things[number][0] // step for number in told), most)

    def test_near_the_best_of_all(self):
        for room, things in seeded():
            best = max(sum(things[number][0] for number in taken) for taken in all_fillings(room, things))
            for parts in range(2, 9):
                worth = sum(things[number][0] for number in by_rounded(room, things, parts))
                self.assertGreaterEqual(worth * parts, best * (parts - 1))

    def test_twelve_great_things(self):
        things = [(GREATEST - 7 * k, GREATEST - 5 * k * k) for k in range(12)]
        for parts in (2, 8):
            told = by_rounded(6 * GREATEST, things, parts)
            self.assertEqual(len(told), 6)
        self.assertEqual(by_rounded(12 * GREATEST, things, 8), list(range(12)))


class UnchangedTest(unittest.TestCase):

    def test_given_and_told(self):
        for room, things in ((0, []), (6, [(6, 3), (9, 4), (1, 1)]), (9, [(900, 3), (900, 3), (900, 6), (899, 3)])):
            assert_unchanged(self, by_rounded, (room, things))
            assert_unchanged(self, by_rounded, (room, things, 2))
            assert_unchanged(self, rounding_step, (room, things, 3))


if __name__ == "__main__":
    unittest.main()
