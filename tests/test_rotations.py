"""Promises 9 and 10: rotation and rotations."""

import unittest

from tests.helper import ALL_TOLD, APART, FIRST_OUT, FOUR, LAST_OUT, ask, ask_behind

# Each from one station to the next of 24, an hour behind the one before.
ROUND = [("flight", number, number, number % 24 + 1, 60 * number - 60, 50) for number in range(1, 25)]


class Rotation(unittest.TestCase):
    def test_from_each_flight_on_first_out(self):
        asked = [("rotation", number) for number in (1, 2, 11, 12)]
        self.assertEqual(ask_behind(FOUR, ("build", FIRST_OUT), *asked),
                         [[0, 1], [0, 2, 1, 11, 2, 12], [0, 2, 2, 12, 1, 11], [0, 2, 11, 2, 12, 1],
                          [0, 2, 12, 1, 11, 2]])

    def test_from_each_flight_on_last_out(self):
        asked = [("rotation", number) for number in (1, 2, 11, 12)]
        self.assertEqual(ask_behind(FOUR, ("build", LAST_OUT), *asked),
                         [[0, 1], [0, 2, 1, 12, 2, 11], [0, 2, 2, 11, 1, 12], [0, 2, 11, 1, 12, 2],
                          [0, 2, 12, 2, 11, 1]])

    def test_of_two_flights_beside_another(self):
        for rule in (FIRST_OUT, LAST_OUT):
            self.assertEqual(ask_behind(FOUR + APART, ("build", rule), ("rotation", 7), ("rotation", 8)),
                             [[0, 2], [0, 1, 7, 8], [0, 1, 8, 7]])

    def test_of_twenty_four_flights(self):
        for rule in (FIRST_OUT, LAST_OUT):
            self.assertEqual(ask_behind(ROUND, ("build", rule), ("rotation", 1), ("rotation", 15), ("rotation", 24)),
                             [[0, 1], [0, 1, *range(1, 25)], [0, 1, *range(15, 25), *range(1, 15)],
                              [0, 1, 24, *range(1, 24)]])

    def test_its_days_are_those_of_its_links_together(self):
        # Flight 1 is ready three days later at 599, and waits 1439 minutes; flight 2 is back at 599 and leaves at 1439.
        plan = [("station", 20, 600, 0), ("flight", 1, 10, 20, 1439, 2880), ("flight", 2, 20, 10, 598, 1)]
        self.assertEqual(ask_behind(plan, ("build", 0), ("next_of", 1), ("next_of", 2), ("rotation", 1)),
                         [[0, 1], [0, 2, 1439, 4], [0, 1, 840, 0], [0, 4, 1, 2]])

    def test_the_ends_of_flight_numbers(self):
        plan = [("flight", 1, 10, 20, 480, 90), ("flight", 9999, 20, 10, 700, 95)]
        self.assertEqual(ask_behind(plan, ("build", 0), ("rotation", 1), ("rotation", 9999), ("rotation", 0),
                                    ("rotation", 10000)),
                         [[0, 1], [0, 1, 1, 9999], [0, 1, 9999, 1], [-2], [-2]])

    def test_no_such_flight(self):
        self.assertEqual(ask(("rotation", 1)), [[-4]])
        self.assertEqual(ask_behind(FOUR, ("build", 0), ("rotation", 3)), [[0, 1], [-4]])

    def test_no_links(self):
        self.assertEqual(ask_behind(FOUR, ("rotation", 1), ("build", 0), ("retime", 1, 300), ("rotation", 1)),
                         [[-7], [0, 1], [0], [-7]])

    def test_no_such_flight_comes_before_no_links(self):
        self.assertEqual(ask_behind(FOUR, ("rotation", 3)), [[-4]])

    def test_it_changes_nothing(self):
        linked = FOUR + [("build", 1)]
        self.assertEqual(ask_behind(linked, ("rotation", 2), ("rotation", 5), *ALL_TOLD)[2:],
                         ask_behind(linked, *ALL_TOLD))


class Rotations(unittest.TestCase):
    def test_one(self):
        for rule in (FIRST_OUT, LAST_OUT):
            self.assertEqual(ask_behind(FOUR, ("build", rule), ("rotations",)), [[0, 1], [0, 1, 4, 2]])
            self.assertEqual(ask_behind(ROUND, ("build", rule), ("rotations",)), [[0, 1], [0, 1, 24, 1]])

    def test_by_rising_heads(self):
        # The flights of the third are told first, and those of the first last.
        plan = [("flight", 9000, 60, 50, 0, 2880), ("flight", 100, 50, 60, 0, 10), *APART, *FOUR]
        for rule in (FIRST_OUT, LAST_OUT):
            self.assertEqual(ask_behind(plan, ("build", rule), ("rotations",)),
                             [[0, 3], [0, 1, 4, 2, 7, 2, 1, 100, 2, 3]])

    def test_the_head_is_the_smallest_number_wherever_it_leaves(self):
        # By time the rotation is 5, 3, 9 (at 100, 300, 500).
        plan = [("flight", 5, 10, 20, 100, 50), ("flight", 3, 20, 30, 300, 50), ("flight", 9, 30, 10, 500, 50)]
        self.assertEqual(ask_behind(plan, ("build", 0), ("rotations",), ("rotation", 5)),
                         [[0, 1], [0, 3, 3, 1], [0, 1, 5, 3, 9]])

    def test_heads_by_number_and_not_by_text(self):
        plan = [("flight", 10, 10, 20, 0, 10), ("flight", 11, 20, 10, 20, 10),
                ("flight", 9, 30, 40, 0, 10), ("flight", 100, 40, 30, 20, 10)]
        self.assertEqual(ask_behind(plan, ("build", 0), ("rotations",)), [[0, 2], [0, 9, 2, 1, 10, 2, 1]])

    def test_twelve(self):
        plan = []
        told = []
        for number in range(1, 25, 2):
            plan += [("flight", number, number, number + 1, 0, 1), ("flight", number + 1, number + 1, number, 9, 1)]
            told += [number, 2, 1]
        self.assertEqual(ask_behind(plan, ("build", 1), ("rotations",)), [[0, 12], [0, *told]])

    def test_no_links(self):
        self.assertEqual(ask(("rotations",)), [[-7]])
        self.assertEqual(ask_behind(FOUR, ("rotations",), ("build", 0), ("station", 10, 0, 0), ("rotations",)),
                         [[-7], [0, 1], [0], [-7]])

    def test_it_changes_nothing(self):
        linked = FOUR + APART + [("build", 0)]
        self.assertEqual(ask_behind(linked, ("rotations",), ("rotations",), *ALL_TOLD)[2:],
                         ask_behind(linked, *ALL_TOLD))


if __name__ == "__main__":
    unittest.main()
