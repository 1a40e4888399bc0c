"""Promise 16: better."""

import unittest

from tests.helper import ALL_TOLD, FOUR, ask, ask_behind


def late(minutes, out=1, back=2):
    """A flight out at 480 that is ready so many minutes behind the one back at 570, so that there are two aircraft."""
    return [("flight", out, 10, 20, 480, 90 + minutes), ("flight", back, 20, 10, 570, 60)]


class Better(unittest.TestCase):
    def check(self, plan, width, told):
        self.assertEqual(ask_behind(plan, ("better", width)), [[0, *told]])

    def test_no_flights(self):
        self.assertEqual(ask(("better", 1), ("better", 60), ("station", 10, 5, 1), ("better", 30)),
                         [[0], [0], [0], [0]])

    def test_unbalanced(self):
        self.assertEqual(ask_behind(FOUR[:1], ("better", 60)), [[-7]])
        self.assertEqual(ask_behind(FOUR, ("cancel", 1), ("better", 60)), [[0], [-7]])

    def test_nothing_is_better(self):
        self.check(late(0), 60, [])
        self.check(FOUR, 60, [])

    def test_one_aircraft_less(self):
        self.check(late(1), 1, [1, 479, 1])

    def test_w_just_enough_and_just_not(self):
        self.check(late(2), 1, [])
        self.check(late(2), 2, [1, 478, 1])
        self.check(late(60), 59, [])
        self.check(late(60), 60, [1, 420, 1])
        self.check(late(61), 60, [])

    def test_the_earliest_minute(self):
        # All minutes from 420 to 479 would do.
        self.check(late(1), 60, [1, 420, 1])

    def test_the_earliest_minute_of_later_ones(self):
        # The one back would do from 571 to 630.
        self.check(late(1, 2, 1), 60, [1, 571, 1])

    def test_the_smallest_number(self):
        self.check(late(5, 30, 4), 10, [4, 575, 1])
        self.check(late(5, 3, 40), 10, [3, 470, 1])
        self.check(list(reversed(late(5, 3, 40))), 10, [3, 470, 1])
        self.check(late(5, 100, 9), 10, [9, 575, 1])

    def test_a_flight_that_is_not_the_first(self):
        others = [("flight", 1, 30, 40, 0, 10), ("flight", 2, 40, 30, 100, 10)]
        self.check(others + late(7, 3, 4), 8, [3, 472, 2])

    def test_too_early_is_not_better_either(self):
        # At 10 another stands from 440 on that flight 5 can take; it must not leave before.
        plan = [("flight", 5, 10, 20, 480, 100), ("flight", 6, 20, 10, 570, 60), ("flight", 7, 30, 10, 400, 40),
                ("flight", 8, 10, 30, 900, 60)]
        self.assertEqual(ask_behind(plan, ("fleet",), ("retime", 5, 470), ("fleet",), ("retime", 5, 439), ("fleet",)),
                         [[0, 2], [0], [0, 1], [0], [0, 2]])
        self.check(plan, 60, [5, 440, 1])

    def test_the_turn_counts(self):
        plan = [("station", 20, 40, 0), ("flight", 1, 10, 20, 480, 60), ("flight", 2, 20, 10, 570, 60)]
        self.check(plan, 10, [1, 470, 1])
        self.check(plan, 9, [])

    def test_nothing_is_looked_at_before_the_days_first_minute(self):
        # Flight 1 would have to leave at 1435 of the day before; flight 2 may leave at 100.
        plan = [("flight", 1, 10, 20, 0, 100), ("flight", 2, 20, 10, 95, 60)]
        self.check(plan, 4, [])
        self.check(plan, 5, [2, 100, 1])
        self.assertEqual(ask_behind(plan, ("retime", 1, 1435), ("fleet",)), [[0], [0, 1]])

    def test_nothing_is_looked_at_behind_the_days_last_minute(self):
        # Flight 1 would have to leave at 2 of the next day; flight 2 may leave at 1297.
        plan = [("flight", 1, 20, 10, 1439, 60), ("flight", 2, 10, 20, 1300, 142)]
        self.check(plan, 2, [])
        self.check(plan, 3, [2, 1297, 1])
        self.assertEqual(ask_behind(plan, ("retime", 1, 2), ("fleet",)), [[0], [0, 1]])

    def test_the_days_first_and_last_minute_are_looked_at(self):
        self.check([("flight", 1, 10, 20, 30, 100), ("flight", 2, 20, 10, 100, 60)], 30, [1, 0, 1])
        self.check([("flight", 1, 10, 20, 30, 100), ("flight", 2, 20, 10, 100, 60)], 60, [1, 0, 1])
        plan = [("flight", 1, 20, 10, 1400, 60), ("flight", 2, 10, 20, 1300, 139)]
        self.check(plan, 38, [])
        self.check(plan, 39, [1, 1439, 1])
        self.check(plan, 60, [1, 1439, 1])

    def test_ready_around_midnight(self):
        # Flight 1 is ready at 3 of the next day, when flight 2 has left at 0; at 997 it is ready just then.
        plan = [("flight", 1, 10, 20, 1000, 443), ("flight", 2, 20, 10, 0, 60)]
        self.check(plan, 2, [])
        self.check(plan, 3, [1, 997, 1])
        self.check(plan, 60, [1, 940, 1])

    def test_of_a_greater_fleet(self):
        plan = []
        for number in range(1, 13):
            plan += [("flight", number, 10, 20, 480, 91), ("flight", 100 + number, 20, 10, 570, 60)]
        self.assertEqual(ask_behind(plan, ("fleet",), ("better", 1), ("retime", 1, 479), ("fleet",), ("better", 1)),
                         [[0, 24], [0, 1, 479, 23], [0], [0, 23], [0, 2, 479, 22]])

    def test_it_is_what_fleet_tells_then(self):
        for number, minute, width in ((1, 420, 60), (1, 470, 10)):
            self.assertEqual(ask_behind(late(1), ("fleet",), ("better", width), ("retime", number, minute), ("fleet",),
                                        ("better", width)),
                             [[0, 2], [0, number, minute, 1], [0], [0, 1], [0]])

    def test_the_ends_of_its_range(self):
        self.assertEqual(ask_behind(late(1), ("better", 0), ("better", 61), ("better", 1), ("better", 60)),
                         [[-2], [-2], [0, 1, 479, 1], [0, 1, 420, 1]])

    def test_out_of_range_comes_before_unbalanced(self):
        self.assertEqual(ask_behind(FOUR[:1], ("better", 0), ("better", 61), ("better", 1)), [[-2], [-2], [-7]])

    def test_it_changes_nothing(self):
        for rule in (0, 1):
            linked = late(1) + [("build", rule)]
            self.assertEqual(ask_behind(linked, ("better", 60), ("better", 61), ("better", 1), *ALL_TOLD)[3:],
                             ask_behind(linked, *ALL_TOLD))

    def test_swapped_links_stay(self):
        linked = FOUR + [("build", 0), ("swap", 1, 2)]
        self.assertEqual(ask_behind(linked, ("better", 60), ("rotations",), ("next_of", 1)),
                         [[0], [0, 1, 2, 1, 2, 2, 1], [0, 12, 400, 0]])

    def test_it_needs_no_links(self):
        self.assertEqual(ask_behind(late(1), ("better", 1), ("next_of", 1)), [[0, 1, 479, 1], [-7]])


if __name__ == "__main__":
    unittest.main()
