"""Promises 7 and 8: build and next_of."""

import unittest

from tests.helper import FIRST_OUT, FOUR, LAST_OUT, ask, ask_behind, following, nexts

PAIR = [("flight", 1, 10, 20, 480, 90), ("flight", 2, 20, 10, 700, 95)]

# At 10 flights 30 and 9 get ready at 600 and 40 and 8 leave at 700; at 20 it is the other way round, at 750 and at 500.
AT_ONCE = [("flight", 30, 20, 10, 500, 100), ("flight", 9, 20, 10, 500, 100),
           ("flight", 40, 10, 20, 700, 50), ("flight", 8, 10, 20, 700, 50)]


class Build(unittest.TestCase):
    def test_no_flights(self):
        self.assertEqual(ask(("build", 0), ("build", 1), ("station", 10, 0, 0), ("build", 0)), [[-7], [-7], [0], [-7]])

    def test_unbalanced(self):
        self.assertEqual(ask_behind(PAIR[:1], ("build", 0), ("build", 1), ("next_of", 1)), [[-7], [-7], [-7]])

    def test_none_left(self):
        self.assertEqual(ask_behind(PAIR, ("cancel", 1), ("cancel", 2), ("build", 0)), [[0], [0], [-7]])

    def test_a_refusal_keeps_the_links(self):
        self.assertEqual(ask_behind(FOUR, ("build", 0), ("build", 2), ("build", -1), *nexts(1, 2)),
                         [[0, 1], [-2], [-2], [0, 11, 300, 0], [0, 12, 390, 0]])

    def test_first_out(self):
        self.assertEqual(ask_behind(FOUR, ("build", FIRST_OUT), *nexts(1, 2, 11, 12)),
                         [[0, 1], [0, 11, 300, 0], [0, 12, 390, 0], [0, 2, 750, 1], [0, 1, 840, 1]])

    def test_last_out(self):
        self.assertEqual(ask_behind(FOUR, ("build", LAST_OUT), *nexts(1, 2, 11, 12)),
                         [[0, 1], [0, 12, 400, 0], [0, 11, 290, 0], [0, 1, 740, 1], [0, 2, 850, 1]])

    def test_the_links_are_built_anew_whatever_there_was(self):
        for rules in ((FIRST_OUT, LAST_OUT), (LAST_OUT, FIRST_OUT), (FIRST_OUT, FIRST_OUT)):
            with self.subTest(rules=rules):
                answered = ask_behind(FOUR, ("build", rules[0]), ("build", rules[1]), *nexts(1, 2, 11, 12))
                alone = ask_behind(FOUR, ("build", rules[1]), *nexts(1, 2, 11, 12))
                self.assertEqual(answered[1:], alone)

    def test_of_one_minute_by_number_first_out(self):
        answered = ask_behind(AT_ONCE, ("build", FIRST_OUT), *nexts(9, 30, 8, 40))
        self.assertEqual(following(answered), [2, 8, 40, 9, 30])

    def test_of_one_minute_by_number_last_out(self):
        # At 10: ready 9, ready 30, leaves 8, leaves 40. At 20: leaves 9, leaves 30, ready 8, ready 40.
        answered = ask_behind(AT_ONCE, ("build", LAST_OUT), *nexts(9, 30, 8, 40))
        self.assertEqual(following(answered), [2, 40, 8, 30, 9])

    def test_ready_at_the_minute_at_which_another_leaves(self):
        # Flight 1 is ready at 570, when flight 2 leaves; it goes on at once by either rule.
        plan = [("flight", 1, 10, 20, 480, 90), ("flight", 2, 20, 10, 570, 60)]
        for rule in (FIRST_OUT, LAST_OUT):
            self.assertEqual(ask_behind(plan, ("build", rule), *nexts(1, 2)),
                             [[0, 1], [0, 2, 0, 0], [0, 1, 1290, 1]])

    def test_last_out_takes_the_one_that_gets_ready_at_that_minute(self):
        # At 20: ready 1 at 500, ready 2 at 600, leaves 3 at 600, leaves 4 at 700.
        plan = [("flight", 1, 10, 20, 400, 100), ("flight", 2, 10, 20, 500, 100),
                ("flight", 3, 20, 10, 600, 10), ("flight", 4, 20, 10, 700, 10)]
        self.assertEqual(ask_behind(plan, ("build", LAST_OUT), *nexts(1, 2))[1:], [[0, 4, 200, 0], [0, 3, 0, 0]])
        self.assertEqual(ask_behind(plan, ("build", FIRST_OUT), *nexts(1, 2))[1:], [[0, 3, 100, 0], [0, 4, 100, 0]])

    def test_last_out_goes_around_the_days_end_past_others_that_leave(self):
        # At 20: leaves 5 at 10, leaves 6 at 20, ready 1 at 30, leaves 7 at 40, ready 2 at 1300, ready 3 at 1400.
        plan = [("flight", 1, 10, 20, 20, 10), ("flight", 2, 10, 20, 1290, 10), ("flight", 3, 10, 20, 1390, 10),
                ("flight", 5, 20, 10, 10, 5), ("flight", 6, 20, 10, 20, 5), ("flight", 7, 20, 10, 40, 5)]
        self.assertEqual(ask_behind(plan, ("build", LAST_OUT), *nexts(1, 2, 3))[1:],
                         [[0, 7, 10, 0], [0, 6, 160, 1], [0, 5, 50, 1]])
        self.assertEqual(ask_behind(plan, ("build", FIRST_OUT), *nexts(1, 2, 3))[1:],
                         [[0, 7, 10, 0], [0, 5, 150, 1], [0, 6, 60, 1]])

    def test_last_out_of_three_that_stood_overnight(self):
        # At 20: leave 5, 6, 7 at 10, 20, 30; ready 1, 2, 3 at 1300, 1310, 1320.
        plan = [("flight", 1, 10, 20, 1290, 10), ("flight", 2, 10, 20, 1300, 10), ("flight", 3, 10, 20, 1310, 10),
                ("flight", 5, 20, 10, 10, 5), ("flight", 6, 20, 10, 20, 5), ("flight", 7, 20, 10, 30, 5)]
        self.assertEqual(ask_behind(plan, ("build", LAST_OUT), *nexts(1, 2, 3))[1:],
                         [[0, 7, 170, 1], [0, 6, 150, 1], [0, 5, 130, 1]])

    def test_the_number_of_rotations(self):
        apart = [("flight", 21, 30, 40, 0, 10), ("flight", 22, 40, 30, 100, 10)]
        self.assertEqual(ask_behind(FOUR + apart, ("build", 0), ("build", 1)), [[0, 2], [0, 2]])
        # With flight 11 ready before 12, each aircraft flies the same two flights again and again.
        self.assertEqual(ask_behind(FOUR + apart, ("cancel", 11), ("flight", 11, 20, 10, 700, 100), ("build", 0),
                                    ("build", 1)), [[0], [0], [0, 3], [0, 3]])

    def test_twenty_four_flights_round(self):
        flights = [("flight", number, number, number % 24 + 1, 60 * number - 60, 50) for number in range(1, 25)]
        for rule in (FIRST_OUT, LAST_OUT):
            answered = ask_behind(flights, ("build", rule), *nexts(1, 23, 24))
            self.assertEqual(answered, [[0, 1], [0, 2, 10, 0], [0, 24, 10, 0], [0, 1, 10, 1]])

    def test_twelve_rotations(self):
        flights = []
        for number in range(1, 25, 2):
            flights += [("flight", number, number, number + 1, 0, 1), ("flight", number + 1, number + 1, number, 9, 1)]
        self.assertEqual(ask_behind(flights, ("build", 0), ("build", 1)), [[0, 12], [0, 12]])


class NextOf(unittest.TestCase):
    def test_no_such_flight(self):
        self.assertEqual(ask(("next_of", 1)), [[-4]])
        self.assertEqual(ask_behind(PAIR, ("next_of", 3), ("build", 0), ("next_of", 3)), [[-4], [0, 1], [-4]])

    def test_no_links(self):
        self.assertEqual(ask_behind(PAIR, ("next_of", 1), ("next_of", 2)), [[-7], [-7]])

    def test_no_such_flight_comes_before_no_links(self):
        self.assertEqual(ask_behind(PAIR, ("next_of", 3)), [[-4]])

    def test_it_changes_nothing(self):
        self.assertEqual(ask_behind(PAIR, ("build", 0), *nexts(1, 1, 2, 3, 1)),
                         [[0, 1], [0, 2, 130, 0], [0, 2, 130, 0], [0, 1, 1125, 1], [-4], [0, 2, 130, 0]])

    def test_wait_and_days(self):
        # dep, block and turn of flight 1, dep of flight 2; the wait and the days.
        cases = ((0, 1, 0, 1, 0, 0), (0, 1, 0, 0, 1439, 1), (1000, 439, 0, 1439, 0, 0), (1000, 439, 0, 0, 1, 1),
                 (1000, 440, 0, 0, 0, 1), (1000, 440, 0, 1439, 1439, 1), (1000, 400, 40, 0, 0, 1),
                 (1000, 400, 41, 0, 1439, 2), (1439, 2880, 600, 599, 0, 3), (1439, 2880, 600, 598, 1439, 4),
                 (0, 2880, 0, 0, 0, 2), (0, 2879, 0, 1438, 1439, 2))
        for dep, block, turn, back, wait, days in cases:
            plan = [("station", 20, turn, 0), ("flight", 1, 10, 20, dep, block), ("flight", 2, 20, 10, back, 1)]
            for rule in (FIRST_OUT, LAST_OUT):
                with self.subTest(dep=dep, block=block, turn=turn, back=back, rule=rule):
                    self.assertEqual(ask_behind(plan, ("build", rule), ("next_of", 1))[1:], [[0, 2, wait, days]])

    def test_the_turn_of_the_station_from_which_it_leaves_does_not_matter(self):
        self.assertEqual(ask_behind([("station", 10, 600, 0)] + PAIR, ("build", 0), *nexts(1, 2))[1:],
                         [[0, 2, 130, 0], [0, 1, 525, 1]])

    def test_links_are_gone_and_built_again(self):
        self.assertEqual(ask_behind(PAIR, ("build", 0), ("retime", 2, 600), ("next_of", 1), ("build", 1),
                                    ("next_of", 1)), [[0, 1], [0], [-7], [0, 1], [0, 2, 30, 0]])


if __name__ == "__main__":
    unittest.main()
