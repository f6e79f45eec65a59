"""Points 28 and 29, and point 2 where it speaks of questions."""

import copy
import itertools
import unittest
from random import Random

from goodenough.errors import NoCover
from goodenough.lengths import way_length
from goodenough.questions import (BenchQuestion, BinQuestion, CoverQuestion, PlaceQuestion, Question, RoundQuestion,
                                  SackQuestion)
from helper import (all_cases, all_fillings, all_puttings, all_rounds, assert_lengths_refused, assert_no_room,
                    assert_whole_numbers, length_tables, questions, sack_questions, size_lists, small_questions,
                    sums_of, whole_cases)

GREATEST = 10 ** 18


class AnyQuestionTest(unittest.TestCase):

    def test_the_plain_one(self):
        question = Question()
        self.assertEqual(question.steps(), 0)
        self.assertEqual(question.low(()), 0)
        self.assertEqual(question.answer(()), [])

    def test_all_stand_under_question(self):
        for kind in (CoverQuestion, BenchQuestion, BinQuestion, SackQuestion, RoundQuestion, PlaceQuestion):
            self.assertTrue(issubclass(kind, Question))

    def test_kinds_and_lows_that_never_fall(self):
        for question in small_questions(1, 15):
            self.assertIs(type(question.steps()), int)
            for case in all_cases(question):
                low = question.low(case)
                self.assertIs(type(low), int)
                if len(case) == question.steps():
                    assert_whole_numbers(self, question.answer(case))
                    continue
                ways = question.ways(case)
                assert_whole_numbers(self, ways)
                self.assertGreater(len(ways), 0)
                self.assertEqual(ways, sorted(set(ways)))
                for way in ways:
                    self.assertGreaterEqual(question.low(case + (way,)), low)

    def test_told_lists_belong_to_who_asked(self):
        for question in small_questions(2, 6):
            for case in list(all_cases(question)):
                tell = question.answer if len(case) == question.steps() else question.ways
                told = tell(case)
                kept = list(told)
                told.append(99)
                told.reverse()
                self.assertEqual(tell(case), kept)
                tell(case).clear()
                self.assertEqual(tell(case), kept)


class KeptTest(unittest.TestCase):

    def assert_kept(self, kind, given, spoil):
        """What was handed in is unchanged by the question, and changing it then changes no answer."""
        wanted = self.all_told(kind(*copy.deepcopy(given)))
        kept = copy.deepcopy(given)
        question = kind(*given)
        self.assertEqual(self.all_told(question), wanted)
        self.assertEqual(given, kept)
        spoil()
        self.assertNotEqual(given, kept)
        self.assertEqual(self.all_told(question), wanted)

    def all_told(self, question):
        told = [question.steps()]
        for case in all_cases(question):
            told.append(question.low(case))
            told.append(question.answer(case) if len(case) == question.steps() else question.ways(case))
        return told

    def test_cover(self):
        sets = [(2, [0, 1]), (3, [1]), (1, [2, 0])]
        self.assert_kept(CoverQuestion, (3, sets), lambda: sets[0][1].append(2))
        sets = [(2, [0, 1]), (3, [1]), (1, [2, 0])]
        self.assert_kept(CoverQuestion, (3, sets), sets.clear)

    def test_benches_and_bins(self):
        works = [4, 1, 5, 2]
        self.assert_kept(BenchQuestion, (works, 3), works.reverse)
        works = [4, 1, 5, 2]
        self.assert_kept(BenchQuestion, (works, 3), works.clear)
        sizes = [4, 1, 5, 2]
        self.assert_kept(BinQuestion, (sizes, 6), sizes.reverse)

    def test_sack(self):
        things = [(4, 1), (5, 2), (1, 3)]
        self.assert_kept(SackQuestion, (4, things), things.reverse)

    def test_lengths(self):
        for kind, rest in ((RoundQuestion, ()), (PlaceQuestion, (2,))):
            lengths = [[0, 2, 4, 3], [2, 0, 2, 4], [4, 2, 0, 5], [3, 4, 5, 0]]
            self.assert_kept(kind, (lengths,) + rest, lengths[1].reverse)
            lengths = [[0, 2, 4, 3], [2, 0, 2, 4], [4, 2, 0, 5], [3, 4, 5, 0]]
            self.assert_kept(kind, (lengths,) + rest, lengths.clear)


class CoverQuestionTest(unittest.TestCase):

    def test_written_out(self):
        question = CoverQuestion(3, [(4, [0, 1]), (3, [2]), (5, [1, 2])])
        self.assertEqual(question.steps(), 3)
        # Thing 0 is in set 0 alone; of the least prices 4, 4, 3 the greatest is 4.
        self.assertEqual(question.ways(()), [1])
        self.assertEqual(question.low(()), 4)
        self.assertEqual(question.ways((1,)), [0, 1])
        self.assertEqual(question.low((1,)), 7)
        self.assertEqual(question.ways((1, 0)), [1])
        self.assertEqual(question.low((1, 0)), 9)
        self.assertEqual(question.ways((1, 1)), [0, 1])
        self.assertEqual(question.low((1, 1)), 7)
        for case, low, answer in (((1, 0, 1), 9, [0, 2]), ((1, 1, 0), 7, [0, 1]), ((1, 1, 1), 12, [0, 1, 2])):
            self.assertEqual(question.low(case), low)
            self.assertEqual(question.answer(case), answer)

    def test_without_sets_or_things(self):
        question = CoverQuestion(0, [])
        self.assertEqual((question.steps(), question.low(()), question.answer(())), (0, 0, []))
        question = CoverQuestion(0, [(7, []), (0, [])])
        self.assertEqual((question.steps(), question.ways(()), question.low(())), (2, [0, 1], 0))
        self.assertEqual(question.low((1, 0)), 7)
        self.assertEqual(question.answer((1, 0)), [0])

    def test_refused_as_it_is_made(self):
        for many, sets, thing in ((1, [], 0), (3, [(1, [0, 2])], 1), (4, [(1, [3, 0]), (2, [])], 1)):
            with self.assertRaises(NoCover) as caught:
                CoverQuestion(many, sets)
            self.assertEqual(caught.exception.thing, thing)

    def test_seeded_against_the_rule(self):
        for many, sets in questions(3, 60, 5, 5, 6) + questions(4, 10, 5, 5, GREATEST):
            question = CoverQuestion(many, sets)
            self.assertEqual(question.steps(), len(sets))
            for case in all_cases(question):
                step = len(case)
                taken = [k for k in range(step) if case[k] == 1]
                bare = set(range(many)) - {thing for k in taken for thing in sets[k][1]}
                besides = [min(price for price, things in sets[step:] if thing in things) for thing in bare]
                self.assertEqual(question.low(case), sum(sets[k][0] for k in taken) + max(besides, default=0))
                if step < len(sets):
                    later = {thing for _, things in sets[step + 1:] for thing in things}
                    needed = bare & set(sets[step][1]) - later
                    self.assertEqual(question.ways(case), [1] if needed else [0, 1])
                else:
                    self.assertEqual(bare, set())
                    self.assertEqual(question.answer(case), taken)

    def test_all_covers_are_whole_cases(self):
        for many, sets in questions(5, 40, 5, 5, 6):
            question = CoverQuestion(many, sets)
            covers = [case for case in itertools.product((0, 1), repeat=len(sets))
                      if set(range(many)) <= {thing for k, one in enumerate(case) if one for thing in sets[k][1]}]
            self.assertEqual(sorted(whole_cases(question)), sorted(covers))


class BenchQuestionTest(unittest.TestCase):

    def test_written_out(self):
        question = BenchQuestion([2, 7, 4], 2)
        self.assertEqual(question.steps(), 3)
        self.assertEqual((question.ways(()), question.low(())), ([0], 7))
        self.assertEqual((question.ways((0,)), question.low((0,))), ([0, 1], 7))
        self.assertEqual((question.ways((0, 0)), question.low((0, 0))), ([0, 1], 11))
        self.assertEqual((question.ways((0, 1)), question.low((0, 1))), ([0, 1], 7))
        self.assertEqual((question.low((0, 1, 1)), question.answer((0, 1, 1))), (7, [1, 0, 1]))
        self.assertEqual((question.low((0, 1, 0)), question.answer((0, 1, 0))), (9, [0, 0, 1]))

    def test_like_works_and_more_benches(self):
        question = BenchQuestion([3, 3, 3], 20)
        self.assertEqual(question.ways((0, 1)), [0, 1, 2])
        self.assertEqual(question.ways((0, 0)), [0, 1])
        self.assertEqual(question.answer((0, 1, 0)), [0, 1, 0])
        self.assertEqual(question.low(()), 1)

    def test_without_works(self):
        question = BenchQuestion([], 3)
        self.assertEqual((question.steps(), question.low(()), question.answer(())), (0, 0, []))

    def test_seeded_against_the_rule(self):
        random = Random(6)
        for works in size_lists(7, 60, 6, 6) + size_lists(8, 10, 5, GREATEST):
            many = random.randint(1, 4)
            question = BenchQuestion(works, many)
            self.assertEqual(question.steps(), len(works))
            order = sorted(range(len(works)), key=lambda number: (-works[number], number))
            for case in all_cases(question):
                so_far = sums_of([works[number] for number in order], case)
                heavy = max(so_far.values(), default=0)
                self.assertEqual(question.low(case), max(-(-sum(works) // many), heavy))
                if len(case) < len(works):
                    self.assertEqual(question.ways(case), list(range(min(len(so_far) + 1, many))))
                else:
                    put = question.answer(case)
                    self.assertEqual([put[number] for number in order], list(case))
            self.assertEqual(whole_cases(question), [tuple(put) for put in all_puttings(len(works), many)])


class BinQuestionTest(unittest.TestCase):

    def test_written_out(self):
        question = BinQuestion([3, 6, 5], 9)
        self.assertEqual(question.steps(), 3)
        self.assertEqual((question.ways(()), question.low(())), ([0], 2))
        self.assertEqual((question.ways((0,)), question.low((0,))), ([1], 2))
        self.assertEqual((question.ways((0, 1)), question.low((0, 1))), ([0, 1, 2], 2))
        self.assertEqual((question.low((0, 1, 0)), question.answer((0, 1, 0))), (2, [0, 0, 1]))
        self.assertEqual((question.low((0, 1, 2)), question.answer((0, 1, 2))), (3, [2, 0, 1]))

    def test_more_room_than_things_is_nought_besides(self):
        question = BinQuestion([1, 1], 50)
        self.assertEqual([question.low(case) for case in ((), (0,), (0, 0), (0, 1))], [1, 1, 1, 2])

    def test_without_things(self):
        question = BinQuestion([], 3)
        self.assertEqual((question.steps(), question.low(()), question.answer(())), (0, 0, []))

    def test_refused_as_it_is_made(self):
        assert_no_room(self, lambda sizes, room: BinQuestion(sizes, room).low(()))

    def test_seeded_against_the_rule(self):
        random = Random(9)
        for sizes in size_lists(10, 60, 6, 7) + size_lists(11, 10, 5, GREATEST):
            room = max(sizes, default=1) + random.randint(0, 6)
            question = BinQuestion(sizes, room)
            self.assertEqual(question.steps(), len(sizes))
            order = sorted(range(len(sizes)), key=lambda number: (-sizes[number], number))
            falling = [sizes[number] for number in order]
            for case in all_cases(question):
                full = sums_of(falling, case)
                rest = sum(falling[len(case):]) - sum(room - full[k] for k in full)
                self.assertEqual(question.low(case), len(full) + max(0, -(-rest // room)))
                if len(case) < len(sizes):
                    fitting = [k for k in sorted(full) if full[k] + falling[len(case)] <= room]
                    self.assertEqual(question.ways(case), fitting + [len(full)])
                else:
                    self.assertEqual(question.low(case), len(full))
                    put = question.answer(case)
                    self.assertEqual([put[number] for number in order], list(case))
            wanted = [tuple(put) for put in all_puttings(len(sizes), len(sizes))
                      if max(sums_of(falling, put).values(), default=0) <= room]
            self.assertEqual(whole_cases(question), wanted)


class SackQuestionTest(unittest.TestCase):

    def test_written_out(self):
        question = SackQuestion(5, [(4, 3), (9, 6), (2, 2)])
        self.assertEqual(question.steps(), 3)
        self.assertEqual((question.ways(()), question.low(())), ([0, 1], 0))
        self.assertEqual((question.ways((0,)), question.low((0,))), ([1], 0))
        self.assertEqual((question.ways((1,)), question.low((1,))), ([1], 4))
        self.assertEqual((question.ways((0, 1)), question.low((0, 1))), ([0, 1], 9))
        self.assertEqual((question.low((0, 1, 0)), question.answer((0, 1, 0))), (9, [0, 2]))
        self.assertEqual((question.low((1, 1, 1)), question.answer((1, 1, 1))), (15, []))

    def test_without_things_or_room(self):
        question = SackQuestion(5, [])
        self.assertEqual((question.steps(), question.low(()), question.answer(())), (0, 0, []))
        question = SackQuestion(0, [(4, 1)])
        self.assertEqual(question.ways(()), [1])

    def test_seeded_against_the_rule(self):
        for room, things in sack_questions(12, 60, 6, 9, 6) + sack_questions(13, 10, 5, GREATEST, GREATEST):
            question = SackQuestion(room, things)
            self.assertEqual(question.steps(), len(things))
            for case in all_cases(question):
                taken = [k for k, choice in enumerate(case) if choice == 0]
                self.assertEqual(question.low(case), sum(things[k][0] for k in range(len(case)) if k not in taken))
                if len(case) < len(things):
                    fits = sum(things[k][1] for k in taken) + things[len(case)][1] <= room
                    self.assertEqual(question.ways(case), [0, 1] if fits else [1])
                else:
                    self.assertEqual(question.answer(case), taken)
            told = [tuple(question.answer(case)) for case in whole_cases(question)]
            self.assertEqual(sorted(told), sorted(all_fillings(room, things)))


class RoundQuestionTest(unittest.TestCase):

    def test_written_out(self):
        question = RoundQuestion([[0, 2, 4], [2, 0, 3], [4, 3, 0]])
        self.assertEqual(question.steps(), 2)
        self.assertEqual((question.ways(()), question.low(())), ([1, 2], 0))
        self.assertEqual((question.ways((1,)), question.low((1,))), ([2], 4))
        self.assertEqual((question.ways((2,)), question.low((2,))), ([1], 8))
        self.assertEqual((question.low((2, 1)), question.answer((2, 1))), (9, [0, 2, 1]))

    def test_one_place(self):
        question = RoundQuestion([[0]])
        self.assertEqual((question.steps(), question.low(()), question.answer(())), (0, 0, [0]))

    def test_refused_as_it_is_made(self):
        assert_lengths_refused(self, lambda lengths: RoundQuestion(lengths).low(()))

    def test_seeded_against_the_rule(self):
        for lengths in length_tables(14, 20, 6, 9) + length_tables(15, 5, 5, GREATEST):
            question = RoundQuestion(lengths)
            self.assertEqual(question.steps(), len(lengths) - 1)
            for case in all_cases(question):
                way = [0] + list(case)
                self.assertEqual(question.low(case), way_length(lengths, way + [0]))
                if len(case) < len(lengths) - 1:
                    self.assertEqual(question.ways(case), [k for k in range(len(lengths)) if k not in way])
                else:
                    self.assertEqual(question.answer(case), way)
            self.assertEqual([question.answer(case) for case in whole_cases(question)],
                             list(all_rounds(len(lengths))))


class PlaceQuestionTest(unittest.TestCase):

    def test_written_out(self):
        lengths = [[abs(a - b) for b in (0, 4, 5, 9)] for a in (0, 4, 5, 9)]
        question = PlaceQuestion(lengths, 2)
        self.assertEqual(question.steps(), 2)
        self.assertEqual((question.ways(()), question.low(())), ([0, 1, 2], 0))
        self.assertEqual((question.ways((1,)), question.low((1,))), ([2, 3], 4))
        self.assertEqual((question.ways((2,)), question.low((2,))), ([3], 5))
        self.assertEqual((question.low((1, 3)), question.answer((1, 3))), (4, [1, 3]))
        self.assertEqual((question.low((0, 3)), question.answer((0, 3))), (4, [0, 3]))
        self.assertEqual(question.low((2, 3)), 5)

    def test_all_places_and_one(self):
        lengths = [[0, 2, 4], [2, 0, 3], [4, 3, 0]]
        self.assertEqual(whole_cases(PlaceQuestion(lengths, 3)), [(0, 1, 2)])
        self.assertEqual(whole_cases(PlaceQuestion(lengths, 1)), [(0,), (1,), (2,)])
        self.assertEqual(whole_cases(PlaceQuestion([[0]], 1)), [(0,)])

    def test_refused_as_it_is_made(self):
        assert_lengths_refused(self, lambda lengths: PlaceQuestion(lengths, 1).low(()))
        assert_lengths_refused(self, lambda lengths: PlaceQuestion(lengths, len(lengths)).low(()))

    def test_seeded_against_the_rule(self):
        for lengths in length_tables(16, 20, 6, 9) + length_tables(17, 5, 6, GREATEST):
            places = range(len(lengths))
            for many in range(1, len(lengths) + 1):
                question = PlaceQuestion(lengths, many)
                self.assertEqual(question.steps(), many)
                self.assertEqual(whole_cases(question), list(itertools.combinations(places, many)))
                for case in all_cases(question):
                    near = list(case)
                    if len(case) < many:
                        near += [place for place in places if not case or place > case[-1]]
                        further = [place for place in places if (not case or place > case[-1])
                                   and len(lengths) - place >= many - len(case)]
                        self.assertEqual(question.ways(case), further)
                    else:
                        self.assertEqual(question.answer(case), list(case))
                    self.assertEqual(question.low(case), max(min(lengths[a][b] for b in near) for a in places))


if __name__ == "__main__":
    unittest.main()
