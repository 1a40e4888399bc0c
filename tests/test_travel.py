"""Promises 14 and 15: after and at."""

import unittest

from tests.helper import ALL_TOLD, APART, FIRST_OUT, FOUR, LAST_OUT, ask, ask_behind

FAR = 10 ** 12

# Flight 1 leaves at 1400 and lands at 60 of the next day, 2 leaves at 700 and lands at 700 two days later; the
# rotation takes three days.
LONG = [("flight", 1, 10, 20, 1400, 100), ("flight", 2, 20, 10, 700, 2880)]


class After(unittest.TestCase):
    def check(self, linked, number, told):
        asked = [("after", number, day) for day in told]
        self.assertEqual(ask_behind(linked, *asked), [[0, *answer] for answer in told.values()])

    def test_first_out(self):
        # 1 and 11 on day 0, 2 and 12 on day 1, 1 and 11 on day 2.
        self.check(FOUR + [("build", FIRST_OUT)], 1, {
            0: (0, 0, 1), 1: (2, 400, 2), 2: (4, 600, 1), 3: (6, 1000, 2), 4: (8, 1200, 1),
            FAR: (2 * FAR, 300 * FAR, 1), FAR - 1: (2 * FAR - 2, 300 * FAR - 200, 2)})

    def test_last_out(self):
        # 1 and 12 on day 0, 2 and 11 on day 1.
        self.check(FOUR + [("build", LAST_OUT)], 1, {
            0: (0, 0, 1), 1: (2, 200, 2), 2: (4, 600, 1), 3: (6, 800, 2),
            FAR: (2 * FAR, 300 * FAR, 1), FAR - 1: (2 * FAR - 2, 300 * FAR - 400, 2)})

    def test_from_a_flight_that_is_not_its_rotations_head(self):
        # 11 on day 0, 2 and 12 on day 1, 1 and 11 on day 2: on the rotation's last day the first one leaves anew.
        self.check(FOUR + [("build", FIRST_OUT)], 11, {
            0: (0, 0, 11), 1: (1, 300, 2), 2: (3, 500, 1), 3: (5, 900, 2), 4: (7, 1100, 1),
            FAR: (2 * FAR - 1, 300 * FAR - 100, 1)})
        self.check(FOUR + [("build", FIRST_OUT)], 12, {
            0: (0, 0, 12), 1: (1, 100, 1), 2: (3, 500, 2), 3: (5, 700, 1), FAR: (2 * FAR - 1, 300 * FAR - 100, 2)})

    def test_days_without_a_flight(self):
        # 1 on day 0, 2 on day 1, none on day 2, 1 on day 3.
        self.check(LONG + [("build", 0)], 1, {
            0: (0, 0, 1), 1: (1, 100, 2), 2: (2, 2980, 1), 3: (2, 2980, 1), 4: (3, 3080, 2), 5: (4, 5960, 1),
            6: (4, 5960, 1), FAR: (2 * (FAR // 3) + 1, 2980 * (FAR // 3) + 100, 2)})
        self.check(LONG + [("build", 0)], 2, {
            0: (0, 0, 2), 1: (1, 2880, 1), 2: (1, 2880, 1), 3: (2, 2980, 2), 4: (3, 5860, 1),
            FAR: (2 * (FAR // 3) + 1, 2980 * (FAR // 3) + 2880, 1)})

    def test_many_flights_on_one_day(self):
        plan = [("flight", number, number, number % 24 + 1, 60 * number - 60, 50) for number in range(1, 25)]
        self.check(plan + [("build", 1)], 1, {0: (0, 0, 1), 1: (24, 1200, 1), FAR: (24 * FAR, 1200 * FAR, 1)})
        self.check(plan + [("build", 1)], 24, {
            0: (0, 0, 24), 1: (1, 50, 1), FAR: (24 * FAR - 23, 1200 * FAR - 1150, 1)})

    def test_the_longest_rotation(self):
        plan = [("station", 10, 600, 0), ("station", 20, 600, 0),
                ("flight", 1, 10, 20, 1439, 2880), ("flight", 2, 20, 10, 1439, 2880)]
        self.check(plan + [("build", 0)], 1, {3: (1, 2880, 2), 4: (2, 5760, 1), 5: (2, 5760, 1), 6: (2, 5760, 1),
                                              7: (3, 8640, 2)})

    def test_the_day_begins_at_minute_nought(self):
        # Flight 1 leaves at the last minute of day 0, flight 2 at the first one of day 1.
        plan = [("flight", 1, 10, 20, 1439, 1), ("flight", 2, 20, 10, 0, 1)]
        self.check(plan + [("build", 0)], 1, {1: (1, 1, 2), 2: (3, 3, 2)})
        self.check(plan + [("build", 0)], 2, {1: (2, 2, 2), 2: (4, 4, 2)})

    def test_another_rotation_does_not_matter(self):
        self.check(FOUR + APART + [("build", 0)], 8, {0: (0, 0, 8), 1: (1, 10, 7), 2: (3, 30, 7)})

    def test_the_ends_of_its_ranges(self):
        self.assertEqual(ask_behind(FOUR, ("build", 0), ("after", 1, -1), ("after", 1, FAR + 1), ("after", 0, 0),
                                    ("after", 10000, 0), ("after", 9999, 0)),
                         [[0, 1], [-2], [-2], [-2], [-2], [-4]])

    def test_no_such_flight(self):
        self.assertEqual(ask(("after", 1, 0)), [[-4]])
        self.assertEqual(ask_behind(FOUR, ("build", 0), ("after", 3, 5)), [[0, 1], [-4]])

    def test_no_links(self):
        self.assertEqual(ask_behind(FOUR, ("after", 1, 5), ("after", 1, 0)), [[-7], [-7]])

    def test_no_such_flight_comes_before_no_links(self):
        self.assertEqual(ask_behind(FOUR, ("after", 3, 5), ("after", 3, FAR + 1)), [[-4], [-2]])

    def test_it_changes_nothing(self):
        linked = FOUR + [("build", 0)]
        self.assertEqual(ask_behind(linked, ("after", 2, 5), ("after", 3, 5), ("after", 1, -1), *ALL_TOLD)[3:],
                         ask_behind(linked, *ALL_TOLD))


class At(unittest.TestCase):
    def check(self, linked, number, told):
        asked = [("at", number, day, minute) for day, minute in told]
        self.assertEqual(ask_behind(linked, *asked), [[0, *answer] for answer in told.values()])

    def test_first_out(self):
        for day in (0, 2, FAR):
            with self.subTest(day=day):
                self.check(FOUR + [("build", FIRST_OUT)], 1, {
                    (day, 0): (0, 10), (day, 299): (0, 10), (day, 300): (1, 1), (day, 399): (1, 1), (day, 400): (0, 20),
                    (day, 699): (0, 20), (day, 700): (1, 11), (day, 999): (1, 11), (day, 1000): (0, 10),
                    (day, 1439): (0, 10)})
        for day in (1, 3, FAR - 1):
            with self.subTest(day=day):
                self.check(FOUR + [("build", FIRST_OUT)], 1, {
                    (day, 0): (0, 10), (day, 309): (0, 10), (day, 310): (1, 2), (day, 409): (1, 2), (day, 410): (0, 20),
                    (day, 799): (0, 20), (day, 800): (1, 12), (day, 899): (1, 12), (day, 900): (0, 10)})

    def test_last_out(self):
        self.check(FOUR + [("build", LAST_OUT)], 1, {
            (0, 799): (0, 20), (0, 800): (1, 12), (0, 900): (0, 10), (1, 310): (1, 2), (1, 700): (1, 11),
            (FAR, 700): (0, 20), (FAR, 800): (1, 12), (FAR - 1, 700): (1, 11), (FAR - 1, 1000): (0, 10)})

    def test_before_the_flight_leaves(self):
        # Whatever was flown before day 0, until flight 11 leaves its aircraft is told to be at 20.
        self.check(FOUR + [("build", FIRST_OUT)], 11, {
            (0, 0): (0, 20), (0, 300): (0, 20), (0, 699): (0, 20), (0, 700): (1, 11), (1, 310): (1, 2),
            (1, 900): (0, 10), (2, 0): (0, 10), (2, 299): (0, 10), (2, 300): (1, 1), (2, 400): (0, 20),
            (2, 700): (1, 11), (FAR, 0): (0, 10), (FAR, 300): (1, 1), (FAR, 699): (0, 20), (FAR, 700): (1, 11)})

    def test_under_way_over_days_beginnings(self):
        self.check(LONG + [("build", 0)], 1, {
            (0, 1399): (0, 10), (0, 1400): (1, 1), (0, 1439): (1, 1), (1, 0): (1, 1), (1, 59): (1, 1), (1, 60): (0, 20),
            (1, 699): (0, 20), (1, 700): (1, 2), (1, 1439): (1, 2), (2, 0): (1, 2), (2, 1439): (1, 2), (3, 0): (1, 2),
            (3, 699): (1, 2), (3, 700): (0, 10), (3, 1399): (0, 10), (3, 1400): (1, 1), (4, 59): (1, 1),
            (4, 60): (0, 20)})

    def test_far_away_over_days_beginnings(self):
        # A million million days are one more than whole rotations.
        self.assertEqual(FAR % 3, 1)
        self.check(LONG + [("build", 0)], 1, {
            (FAR, 0): (1, 1), (FAR, 59): (1, 1), (FAR, 60): (0, 20), (FAR, 699): (0, 20), (FAR, 700): (1, 2),
            (FAR, 1439): (1, 2), (FAR - 1, 699): (1, 2), (FAR - 1, 700): (0, 10), (FAR - 1, 1400): (1, 1)})

    def test_at_both_ends_of_the_day(self):
        plan = [("flight", 1, 10, 20, 1439, 1), ("flight", 2, 20, 10, 0, 1)]
        self.check(plan + [("build", 0)], 1, {(0, 0): (0, 10), (0, 1438): (0, 10), (0, 1439): (1, 1), (1, 0): (1, 2),
                                              (1, 1): (0, 10), (FAR, 0): (1, 2), (FAR, 1439): (1, 1)})
        self.check(plan + [("build", 0)], 2, {(0, 0): (1, 2), (0, 1): (0, 10), (0, 1439): (1, 1), (1, 0): (1, 2)})

    def test_one_leaves_at_the_minute_at_which_the_other_lands(self):
        plan = [("flight", 1, 10, 20, 480, 90), ("flight", 2, 20, 10, 570, 60)]
        self.check(plan + [("build", 1)], 1, {(0, 569): (1, 1), (0, 570): (1, 2), (0, 629): (1, 2), (0, 630): (0, 10)})

    def test_it_has_landed_before_it_is_ready(self):
        plan = [("station", 20, 600, 0), ("flight", 1, 10, 20, 480, 90), ("flight", 2, 20, 10, 1170, 60)]
        self.check(plan + [("build", 1)], 1, {(0, 569): (1, 1), (0, 570): (0, 20), (0, 1169): (0, 20),
                                              (0, 1170): (1, 2)})

    def test_the_ends_of_numbers(self):
        plan = [("flight", 9999, 17575, 0, 0, 10), ("flight", 1, 0, 17575, 20, 10)]
        self.check(plan + [("build", 0)], 9999, {(0, 0): (1, 9999), (0, 10): (0, 0), (0, 20): (1, 1),
                                                 (0, 30): (0, 17575)})
        self.check(plan + [("build", 0)], 1, {(0, 0): (0, 0), (0, 20): (1, 1)})

    def test_the_ends_of_its_ranges(self):
        self.assertEqual(ask_behind(FOUR, ("build", 0), ("at", 1, -1, 0), ("at", 1, FAR + 1, 0), ("at", 1, 0, -1),
                                    ("at", 1, 0, 1440), ("at", 0, 0, 0), ("at", 10000, 0, 0), ("at", 9999, 0, 0)),
                         [[0, 1], [-2], [-2], [-2], [-2], [-2], [-2], [-4]])

    def test_no_such_flight(self):
        self.assertEqual(ask(("at", 1, 0, 0)), [[-4]])
        self.assertEqual(ask_behind(FOUR, ("build", 0), ("at", 3, 5, 5)), [[0, 1], [-4]])

    def test_no_links(self):
        self.assertEqual(ask_behind(FOUR, ("at", 1, 5, 5), ("at", 1, 0, 0)), [[-7], [-7]])

    def test_no_such_flight_comes_before_no_links(self):
        self.assertEqual(ask_behind(FOUR, ("at", 3, 5, 5), ("at", 3, 5, 1440)), [[-4], [-2]])

    def test_it_changes_nothing(self):
        linked = FOUR + [("build", 0)]
        self.assertEqual(ask_behind(linked, ("at", 2, 5, 5), ("at", 3, 5, 5), ("at", 1, -1, 0), *ALL_TOLD)[3:],
                         ask_behind(linked, *ALL_TOLD))


if __name__ == "__main__":
    unittest.main()
