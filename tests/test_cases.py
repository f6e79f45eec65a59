"""Points 30 and 31, the eighth item of point 4, and point 2 where it speaks of these."""

import copy
import itertools
import unittest

from goodenough.cases import best_by_cases, parts_all
from goodenough.errors import TooMany
from goodenough.lengths import round_length
from goodenough.questions import (BenchQuestion, BinQuestion, CoverQuestion, PlaceQuestion, Question, RoundQuestion,
                                  SackQuestion)
from helper import (all_cases, all_fillings, all_puttings, all_rounds, length_tables, questions, sack_questions,
                    size_lists, small_questions, sums_of, whole_cases)


class Deep(Question):
    """A question of a test's own: a choice of two at each step, the low being how many ones were chosen."""

    def __init__(self, many):
        self.many = many

    def steps(self):
        return self.many

    def ways(self, case):
        if any(choice not in (0, 1) for choice in case) or len(case) >= self.many:
            raise AssertionError("asked about a case that hasn't come by ways")
        return [0, 1]

    def low(self, case):
        return sum(case)

    def answer(self, case):
        return list(case)


class Led(Deep):
    """The same behind a first step that has but one way."""

    def steps(self):
        return self.many + 1

    def ways(self, case):
        return Deep.ways(self, case[1:]) if case else [0]


def looked_through(question):
    """Point 30 by recursion: the best case, its cost, the closed cases, and how many were looked at."""
    found = {"case": None, "cost": None, "closed": [], "count": 0}

    def look(case):
        found["count"] += 1
        low = question.low(case)
        if found["cost"] is not None and low >= found["cost"]:
            found["closed"].append(case)
        elif len(case) == question.steps():
            found["closed"].append(case)
            found["case"], found["cost"] = case, low
        else:
            for way in question.ways(case):
                look(case + (way,))

    look(())
    return (found["case"], found["cost"], found["closed"]), found["count"]


def partings(question, case=()):
    """All lists that part a case, by the words of point 31."""
    yield [case]
    if len(case) < question.steps():
        parts = [list(partings(question, case + (way,))) for way in question.ways(case)]
        for chosen in itertools.product(*parts):
            yield [one for part in chosen for one in part]


class BestTest(unittest.TestCase):

    def test_the_plain_question(self):
        self.assertEqual(best_by_cases(Question()), ((), 0, [()]))
        self.assertEqual(best_by_cases(Question(), 1), ((), 0, [()]))

    def test_written_out(self):
        question = RoundQuestion([[0, 2, 4], [2, 0, 3], [4, 3, 0]])
        self.assertEqual(best_by_cases(question), ((1, 2), 9, [(1, 2), (2, 1)]))
        question = SackQuestion(5, [(4, 3), (9, 6), (2, 2)])
        self.assertEqual(best_by_cases(question), ((0, 1, 0), 9, [(0, 1, 0), (0, 1, 1), (1, 1)]))

    def test_a_better_one_found_later(self):
        question = CoverQuestion(2, [(3, [0]), (3, [1]), (4, [0, 1])])
        self.assertEqual(best_by_cases(question), ((0, 0, 1), 4, [(0, 0, 1), (0, 1), (1,)]))
        question = BenchQuestion([3, 3, 2, 2, 2], 2)
        told = best_by_cases(question)
        self.assertEqual(told[:2], ((0, 0, 1, 1, 1), 6))

    def test_a_low_that_is_just_the_cost_is_closed(self):
        # Cases of just the best cost so far are closed without being gone through.
        question = PlaceQuestion([[0, 0, 0], [0, 0, 0], [0, 0, 0]], 2)
        self.assertEqual(best_by_cases(question), ((0, 1), 0, [(0, 1), (0, 2), (1,)]))

    def test_seeded_against_the_rule(self):
        for question in small_questions(1, 25):
            told = best_by_cases(question, 5000)
            self.assertIs(type(told), tuple)
            case, cost, closed = told
            self.assertIs(type(case), tuple)
            self.assertIs(type(cost), int)
            self.assertIs(type(closed), list)
            for one in closed:
                self.assertIs(type(one), tuple)
            self.assertEqual(told, looked_through(question)[0])

    def test_least_of_all_whole_cases(self):
        for question in small_questions(2, 25):
            case, cost, closed = best_by_cases(question, 5000)
            self.assertEqual(cost, min(question.low(one) for one in whole_cases(question)))
            self.assertEqual(question.low(case), cost)
            self.assertEqual(len(case), question.steps())
            self.assertIn(case, closed)
            for one in closed:
                self.assertGreaterEqual(question.low(one), cost)


class MostTest(unittest.TestCase):

    def test_just_enough_and_one_less(self):
        for question in small_questions(3, 12):
            wanted, count = looked_through(question)
            self.assertEqual(best_by_cases(question, count), wanted)
            if count > 1:
                with self.assertRaises(TooMany):
                    best_by_cases(question, count - 1)
                self.assertEqual(best_by_cases(question, count), wanted)

    def test_cases_closed_at_once_count(self):
        # Looked at are (), (0,), (0, 0), and (0, 1) and (1,), which are closed at once.
        self.assertEqual(best_by_cases(Deep(2), 5), ((0, 0), 0, [(0, 0), (0, 1), (1,)]))
        with self.assertRaises(TooMany):
            best_by_cases(Deep(2), 4)
        with self.assertRaises(TooMany):
            best_by_cases(Deep(2), 1)

    def test_left_out_it_is_two_thousand(self):
        self.assertEqual(looked_through(Deep(40))[1], 81)
        self.assertEqual(best_by_cases(Deep(40))[1], 0)
        # 2 * 999 + 1 cases, and 2 * 1000 + 1.
        self.assertEqual(best_by_cases(Deep(999))[1], 0)
        with self.assertRaises(TooMany):
            best_by_cases(Deep(1000))
        self.assertEqual(best_by_cases(Deep(1000), 2001)[1], 0)
        # One more case ahead of them: 2000, which is just enough.
        self.assertEqual(looked_through(Led(20))[1], 42)
        self.assertEqual(best_by_cases(Led(999))[1], 0)

    def test_a_question_too_great(self):
        lengths = [[0 if a == b else 5 for b in range(12)] for a in range(12)]
        with self.assertRaises(TooMany):
            best_by_cases(RoundQuestion(lengths), 5000)


class PartsAllTest(unittest.TestCase):

    def assert_told(self, question, closed, wanted):
        self.assertIs(parts_all(question, closed), wanted)

    def test_the_plain_question(self):
        self.assert_told(Question(), [()], True)
        for closed in ([], [(), ()], [(0,)], [(), (0,)], [(0,), ()]):
            self.assert_told(Question(), closed, False)

    def test_written_out(self):
        for closed in ([()], [(0,), (1,)], [(0, 0), (0, 1), (1,)], [(0,), (1, 0), (1, 1)],
                       [(0, 0), (0, 1), (1, 0), (1, 1)]):
            self.assert_told(Deep(2), closed, True)
        for closed in ([], [(0,)], [(1,)], [(1,), (0,)], [(0,), (0,)], [(0,), (1,), (1,)], [(), (0,)], [(0,), ()],
                       [(0, 0), (0, 1)], [(0, 0), (1,), (0, 1)], [(0, 1), (0, 0), (1,)], [(0, 0), (1,)],
                       [(0, 0), (0,), (1,)], [(0,), (0, 0), (1,)], [(0,), (2,)], [(0,), (1,), (2,)], [(-1,)],
                       [(0, 0, 0), (0, 1), (1,)], [(0, 0), (0, 1, 1), (1,)], [(10 ** 100,)], [(0,), (1, 1, 1, 1)]):
            self.assert_told(Deep(2), closed, False)

    def test_what_the_best_leaves(self):
        for question in small_questions(4, 25):
            self.assert_told(question, best_by_cases(question, 5000)[2], True)

    def test_all_whole_cases_and_the_widest(self):
        for question in small_questions(5, 10):
            self.assert_told(question, whole_cases(question), True)
            self.assert_told(question, [()], True)

    def test_spoiled_lists(self):
        for question in small_questions(6, 8):
            closed = best_by_cases(question, 5000)[2]
            for k in range(len(closed)):
                self.assert_told(question, closed[:k] + closed[k + 1:], False)
                self.assert_told(question, closed[:k] + [closed[k]] + closed[k:], False)
                self.assert_told(question, closed[:k] + [closed[k] + (0,)] + closed[k + 1:],
                                 len(closed[k]) < question.steps() and question.ways(closed[k]) == [0])
                if k > 0:
                    self.assert_told(question, closed[:k - 1] + [closed[k], closed[k - 1]] + closed[k + 1:], False)
            self.assert_told(question, closed + [()], False)
            self.assert_told(question, [()] + closed, False)
            self.assert_told(question, closed + closed, False)

    def test_all_short_lists_against_the_words(self):
        question = Deep(2)
        wanted = [tuple(closed) for closed in partings(question)]
        cases = list(all_cases(question))
        for size in range(4):
            for closed in itertools.product(cases, repeat=size):
                self.assert_told(question, list(closed), closed in wanted)
        for closed in itertools.permutations(cases, 4):
            self.assert_told(question, list(closed), closed in wanted)

    def test_no_question_is_asked_of_odd_cases(self):
        # Deep refuses to tell the ways of a case that hasn't come by ways.
        for closed in ([(5,)], [(0,), (5, 0)], [(0, 5)], [(0, 0), (0, 1), (1, 0), (1, 7)], [(1, 1, 1, 1)],
                       [(0, 0, 0), (0, 0, 1)], [(-1, 0), (1,)]):
            self.assert_told(Deep(2), closed, False)


class PromiseTest(unittest.TestCase):

    def assert_best(self, question, costs):
        case, cost, closed = best_by_cases(question, 5000)
        self.assertEqual(cost, min(costs))
        # Each answer costs what some whole case costs.
        self.assertEqual({question.low(one) for one in whole_cases(question)}, set(costs))

    def test_covers(self):
        for many, sets in questions(7, 40, 5, 6, 6):
            costs = []
            for chosen in itertools.product((0, 1), repeat=len(sets)):
                taken = [sets[k] for k in range(len(sets)) if chosen[k]]
                if set(range(many)) <= {thing for _, things in taken for thing in things}:
                    costs.append(sum(price for price, _ in taken))
            self.assert_best(CoverQuestion(many, sets), costs)

    def test_benches(self):
        # Any putting, also one whose benches aren't numbered as they are opened; the low of a whole case is the
        # greater of its heaviest and the sum by benches, which no heaviest goes below.
        for works in size_lists(8, 30, 5, 7):
            for many in (1, 2, 3):
                costs = [max(sums_of(works, put).values(), default=0)
                         for put in itertools.product(range(many), repeat=len(works))]
                self.assert_best(BenchQuestion(works, many), costs)

    def test_bins(self):
        for sizes in size_lists(9, 40, 6, 7):
            puttings = [sums_of(sizes, put) for put in all_puttings(len(sizes), len(sizes))]
            costs = [len(full) for full in puttings if max(full.values(), default=0) <= 9]
            self.assert_best(BinQuestion(sizes, 9), costs)

    def test_sacks(self):
        for room, things in sack_questions(10, 40, 6, 9, 6):
            every = sum(worth for worth, _ in things)
            self.assert_best(SackQuestion(room, things), [every - sum(things[number][0] for number in taken)
                                                          for taken in all_fillings(room, things)])

    def test_rounds_and_places(self):
        for lengths in length_tables(11, 25, 6, 9):
            self.assert_best(RoundQuestion(lengths), [round_length(lengths, way) for way in all_rounds(len(lengths))])
            for many in range(1, len(lengths) + 1):
                costs = [max(min(lengths[a][b] for b in some) for a in range(len(lengths)))
                         for some in itertools.combinations(range(len(lengths)), many)]
                self.assert_best(PlaceQuestion(lengths, many), costs)


class UnchangedTest(unittest.TestCase):

    def test_told_lists_belong_to_who_asked(self):
        for question in small_questions(12, 6):
            told = best_by_cases(question, 5000)
            kept = copy.deepcopy(told)
            told[2].append((9, 9))
            told[2].reverse()
            self.assertEqual(best_by_cases(question, 5000), kept)

    def test_closed_cases_stay(self):
        for question in small_questions(13, 6):
            closed = best_by_cases(question, 5000)[2]
            kept = list(closed)
            self.assertIs(parts_all(question, closed), True)
            self.assertEqual(closed, kept)


if __name__ == "__main__":
    unittest.main()
