"""sameflights.plan.answers: how calls are read, and how answers stand in what is given back."""

import unittest

from sameflights.plan import answers
from tests.helper import BIGGEST, PLACES, RANGES, ask, cut

# Out at 480, ready at 610; back at 700, ready at 795.
TWO = [0, 20, 40, 1, 1, 1, 10, 20, 480, 90, 1, 2, 20, 10, 700, 95]


class Framing(unittest.TestCase):
    def test_one_call(self):
        self.assertEqual(answers([4]), [1, 0])
        self.assertEqual(answers([5]), [2, 0, 0])
        self.assertEqual(answers([6, 17]), [3, 0, 0, 0])
        self.assertEqual(answers([7, 0]), [1, -7])
        self.assertEqual(answers([8, 1]), [1, -4])
        self.assertEqual(answers([9, 1]), [1, -4])
        self.assertEqual(answers([10]), [1, -7])
        self.assertEqual(answers([11, 1, 2]), [1, -4])
        self.assertEqual(answers([12]), [1, -7])
        self.assertEqual(answers([13, 0, 1]), [1, -7])
        self.assertEqual(answers([14, 1, 0]), [1, -4])
        self.assertEqual(answers([15, 1, 0, 0]), [1, -4])
        self.assertEqual(answers([16, 1]), [1, 0])

    def test_several_calls_each_with_its_count(self):
        calls = TWO + [4, 5, 6, 10, 6, 20, 7, 0, 8, 1, 8, 2, 3, 1, 500, 8, 1, 2, 2, 4]
        self.assertEqual(answers(calls), [
            1, 0, 1, 0, 1, 0,
            1, 0,
            2, 0, 1,
            3, 0, 1, 1,
            3, 0, 0, 1,
            2, 0, 1,
            4, 0, 2, 90, 0,
            4, 0, 1, 1125, 1,
            1, 0,
            1, -7,
            1, 0,
            5, 0, 10, -1, 20, 1,
        ])

    def test_several_calls_on_links_each_with_its_count(self):
        calls = TWO + [16, 60, 10, 7, 1, 9, 2, 10, 11, 1, 2, 11, 1, 1, 12, 13, 100, 185, 14, 2, 3, 15, 1, 0, 569,
                       15, 1, 0, 570, 15, 1, 0, 1440, 16, 60, 3, 2, 600, 16, 60, 12, 5]
        self.assertEqual(answers(calls), [
            1, 0, 1, 0, 1, 0,
            1, 0,
            1, -7,
            2, 0, 1,
            4, 0, 1, 2, 1,
            4, 0, 1, 2, 1,
            1, -8,
            1, -8,
            2, 0, 1,
            5, 0, 1, 1, 1, 185,
            4, 0, 5, 465, 1,
            3, 0, 1, 1,
            3, 0, 0, 20,
            1, -2,
            1, 0,
            1, 0,
            4, 0, 1, 420, 1,
            1, -7,
            2, 0, 2,
        ])

    def test_only_whole_numbers_in_one_list(self):
        answered = answers(TWO + [4, 5, 6, 10, 7, 1, 8, 1, 8, 3, 9, 1, 10, 11, 1, 2, 12, 13, 0, 1, 13, 0, 1000,
                                  14, 1, 5, 15, 1, 5, 5, 15, 1, 5, 500, 3, 2, 600, 16, 60])
        self.assertIs(type(answered), list)
        self.assertEqual({type(number) for number in answered}, {int})

    def test_four_hundred_calls(self):
        calls = []
        for number in range(1, 401):
            calls += [1, number, number, number + 1, 0, 1]
        self.assertEqual(answers(calls), [1, 0] * 24 + [1, -6] * 376)

    def test_four_hundred_calls_of_the_longest_answers(self):
        calls = []
        for number in range(1, 25):
            calls += [1, number, number, number % 24 + 1, 60 * number - 60, 50]
        calls += [7, 0] + [9, 24] * 375
        self.assertEqual(answers(calls), [1, 0] * 24 + [2, 0, 1] + [26, 0, 1, 24, *range(1, 24)] * 375)

    def test_four_hundred_calls_of_the_longest_work(self):
        plan = []
        for number in range(1, 13):
            plan += [1, number, 10, 20, 61 * number, 47 * number, 1, 100 + number, 20, 10, 1440 - 67 * number, 50]
        for calls in ([16, 60], [7, 0, 12]):
            with self.subTest(calls=calls):
                once = answers(plan + calls)[48:]
                times = 376 if len(calls) == 2 else 188
                self.assertEqual(answers(plan + calls * times), [1, 0] * 24 + once * times)


class NothingKept(unittest.TestCase):
    CALLS = TWO + [1, 3, 10, 20, 490, 90, 1, 4, 20, 10, 710, 95, 7, 1, 8, 1, 1, 1, 1, 1, 1, 1, 0, -1, 0, 0, 11, 1, 3,
                   9, 1, 10, 12, 10, 13, 0, 500, 14, 1, 10 ** 12, 15, 1, 10 ** 12, 500, 16, 60, 11, 1, 2, 3, 2, 600,
                   16, 60, 4, 2, 1, 4, 5]

    def test_the_list_is_as_it_was(self):
        calls = list(self.CALLS)
        answers(calls)
        self.assertEqual(calls, self.CALLS)

    def test_a_second_time_answers_as_the_first(self):
        first = answers(list(self.CALLS))
        kept = list(first)
        self.assertEqual(answers(list(self.CALLS)), kept)
        self.assertEqual(first, kept)

    def test_each_list_has_a_new_plan(self):
        answers(TWO + [7, 0])
        self.assertEqual(answers([4, 5, 8, 1, 7, 0]), [1, 0, 2, 0, 0, 1, -4, 1, -7])
        self.assertEqual(answers([10, 12, 13, 0, 1, 9, 1, 14, 1, 0, 16, 1]),
                         [1, -7, 1, -7, 1, -7, 1, -4, 1, -4, 1, 0])

    def test_links_are_not_kept(self):
        answers(TWO + [7, 0])
        self.assertEqual(cut(answers(TWO + [8, 1, 10, 12, 11, 1, 2, 15, 1, 0, 0]))[3:], [[-7]] * 5)

    def test_turns_and_hangars_are_not_kept(self):
        answers([0, 20, 600, 1])
        self.assertEqual(ask(("flight", 1, 10, 20, 0, 60), ("flight", 2, 20, 10, 60, 60), ("build", 0),
                             ("next_of", 1), ("service", 0, 1000))[-2:], [[0, 2, 0, 0], [0, 0, 1, 0, 0]])


class Ranges(unittest.TestCase):
    def inside(self, name):
        given = [low for low, high in RANGES[name]]
        if name == "flight":
            given[2] = 1
        return given

    def test_one_beyond_each_end_is_refused(self):
        for name in RANGES:
            for at, (low, high) in enumerate(RANGES[name]):
                for value in (low - 1, high + 1, -BIGGEST, BIGGEST):
                    with self.subTest(call=name, argument=at, value=value):
                        given = self.inside(name)
                        given[at] = value
                        self.assertEqual(ask((name, *given)), [[-2]])

    def test_both_ends_are_taken(self):
        for name in RANGES:
            for at, ends in enumerate(RANGES[name]):
                for value in ends:
                    with self.subTest(call=name, argument=at, value=value):
                        given = self.inside(name)
                        given[at] = value
                        self.assertNotEqual(ask((name, *given)), [[-2]])

    def test_no_call_is_refused_by_its_form(self):
        for name in RANGES:
            for plan in ([], TWO, TWO + [7, 0]):
                for given in (self.inside(name), [high for low, high in RANGES[name]], [-1] * len(RANGES[name])):
                    with self.subTest(call=name, given=given):
                        self.assertNotEqual(cut(answers(plan + [PLACES[name], *given]))[-1], [-1])

    def test_out_of_range_comes_before_all_others(self):
        plan = TWO + [0, 10, 0, 0]
        for number in range(100, 122):
            plan += [1, number, 10, 20, 0, 1]
        for station in range(100, 122):
            plan += [0, station, 0, 0]
        refused = [
            [0, 999, 601, 0], [0, 999, 0, 2],
            [1, 1, 10, 20, 1440, 1], [1, 3, 10, 20, 0, 2881], [1, 3, 10, 10, 0, 0], [1, 3, 17576, 17576, 0, 1],
            [2, 10000], [3, 9999, 1440], [3, 0, 0], [6, 17576], [7, 2], [8, 0], [9, 10000], [11, 9999, 0],
            [11, 1, 10000], [13, 1441, 1], [13, 0, 0], [14, 9999, -1], [14, 1, 10 ** 12 + 1], [15, 9999, 0, 1440],
            [15, 1, -1, 0], [16, 0], [16, 61],
        ]
        for call in refused:
            with self.subTest(call=call):
                self.assertEqual(cut(answers(plan + call))[-1], [-2])

    def test_a_refusal_by_range_changes_nothing(self):
        plan = TWO + [7, 0]
        asked = [4, 5, 6, 10, 6, 20, 8, 1, 8, 2, 9, 1, 10]
        as_it_is = cut(answers(plan + asked))[-8:]
        for name in RANGES:
            for at, (low, high) in enumerate(RANGES[name]):
                for value in (low - 1, high + 1):
                    with self.subTest(call=name, argument=at, value=value):
                        call = [PLACES[name], *self.inside(name)]
                        call[1 + at] = value
                        self.assertEqual(cut(answers(plan + call + asked))[-9:], [[-2], *as_it_is])

    def test_the_calls_behind_each_are_found(self):
        for name in RANGES:
            for plan in (TWO, TWO + [7, 0]):
                with self.subTest(call=name):
                    answered = cut(answers(plan + [PLACES[name], *self.inside(name)] + [8, 7, 4, 8, 9]))
                    self.assertEqual(len(answered), len(cut(answers(plan))) + 4)
                    self.assertEqual([answered[-3], answered[-1]], [[-4], [-4]])


if __name__ == "__main__":
    unittest.main()
