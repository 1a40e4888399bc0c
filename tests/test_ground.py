"""Promises 4 to 6: balance, fleet, ground."""

import unittest

from tests.helper import ask, ask_behind

PAIR = [("flight", 1, 10, 20, 480, 90), ("flight", 2, 20, 10, 700, 95)]


def there_and_back(dep, block, back, turn=0):
    """Flight 1 goes from 10 to 20, flight 2 leaves 20 at the minute back, and is at 10 one minute later."""
    return [("station", 20, turn, 0), ("flight", 1, 10, 20, dep, block), ("flight", 2, 20, 10, back, 1)]


class Balance(unittest.TestCase):
    def test_no_flights(self):
        self.assertEqual(ask(("balance",), ("station", 5, 10, 1), ("balance",)), [[0], [0], [0]])

    def test_balanced_flights(self):
        self.assertEqual(ask_behind(PAIR, ("balance",)), [[0]])

    def test_coming_less_leaving_by_rising_stations(self):
        calls = [("flight", 5, 300, 20, 0, 1), ("flight", 4, 300, 1000, 0, 1), ("flight", 3, 9, 20, 0, 1),
                 ("flight", 2, 300, 20, 0, 1)]
        self.assertEqual(ask_behind(calls, ("balance",)), [[0, 9, -1, 20, 3, 300, -3, 1000, 1]])

    def test_stations_that_are_balanced_are_left_out(self):
        chain = [("flight", 1, 30, 20, 0, 1), ("flight", 2, 20, 10, 0, 1)]
        self.assertEqual(ask_behind(chain, ("balance",)), [[0, 10, 1, 30, -1]])

    def test_station_nought_and_the_last(self):
        self.assertEqual(ask(("flight", 1, 17575, 0, 0, 1), ("balance",)), [[0], [0, 0, 1, 17575, -1]])

    def test_all_stations_of_twenty_four_flights(self):
        flights = [("flight", number, 2 * number, 2 * number + 1, 0, 1) for number in range(1, 25)]
        told = []
        for number in range(1, 25):
            told += [2 * number, -1, 2 * number + 1, 1]
        self.assertEqual(ask_behind(flights, ("balance",)), [[0, *told]])

    def test_the_time_of_day_does_not_matter(self):
        self.assertEqual(ask_behind(PAIR, ("retime", 1, 1439), ("balance",)), [[0], [0]])


class Fleet(unittest.TestCase):
    def test_no_flights(self):
        self.assertEqual(ask(("fleet",), ("station", 5, 10, 1), ("fleet",)), [[0, 0], [0], [0, 0]])

    def test_unbalanced(self):
        self.assertEqual(ask(("flight", 1, 10, 20, 480, 90), ("fleet",)), [[0], [-7]])
        self.assertEqual(ask_behind(PAIR, ("cancel", 2), ("fleet",), ("cancel", 1), ("fleet",)),
                         [[0], [-7], [0], [0, 0]])

    def test_one_aircraft_flies_both(self):
        self.assertEqual(ask_behind(PAIR, ("fleet",)), [[0, 1]])

    def test_an_aircraft_more_if_it_is_a_minute_late(self):
        self.assertEqual(ask_behind(there_and_back(480, 90, 570), ("fleet",)), [[0, 1]])
        self.assertEqual(ask_behind(there_and_back(480, 91, 570), ("fleet",)), [[0, 2]])

    def test_the_turn_counts_at_the_station_to_which_it_comes(self):
        self.assertEqual(ask_behind(there_and_back(480, 60, 570, 30), ("fleet",)), [[0, 1]])
        self.assertEqual(ask_behind(there_and_back(480, 60, 570, 31), ("fleet",)), [[0, 2]])

    def test_ready_around_midnight(self):
        # Ready at 1439, at 0 and at 1 of the next day; flight 2 leaves at 0.
        self.assertEqual(ask_behind(there_and_back(1000, 439, 0), ("fleet",)), [[0, 1]])
        self.assertEqual(ask_behind(there_and_back(1000, 440, 0), ("fleet",)), [[0, 1]])
        self.assertEqual(ask_behind(there_and_back(1000, 441, 0), ("fleet",)), [[0, 2]])
        # The same with flight 2 at the day's last minute, ready again at 0 of the next day.
        self.assertEqual(ask_behind(there_and_back(1000, 439, 1439), ("fleet",)), [[0, 1]])
        self.assertEqual(ask_behind(there_and_back(1000, 440, 1439), ("fleet",)), [[0, 2]])

    def test_under_way_over_several_days_beginnings(self):
        for block, turn, fleet in ((1, 0, 1), (1439, 0, 1), (1440, 0, 2), (2879, 0, 2), (2880, 0, 3), (2880, 600, 3)):
            with self.subTest(block=block, turn=turn):
                # Flight 2 leaves at the last minute, so nothing stands overnight at 20, and one comes in at minute 0.
                plan = [("station", 20, turn, 0), ("flight", 1, 10, 20, 0, block), ("flight", 2, 20, 10, 1439, 1)]
                self.assertEqual(ask_behind(plan, ("fleet",)), [[0, fleet]])

    def test_latest_and_longest(self):
        plan = [("station", 20, 600, 0), ("station", 10, 600, 0),
                ("flight", 1, 10, 20, 1439, 2880), ("flight", 2, 20, 10, 1439, 2880)]
        self.assertEqual(ask_behind(plan, ("fleet",)), [[0, 6]])

    def test_the_greatest_lack_is_in_the_midst_of_the_day(self):
        plan = [("flight", 1, 10, 20, 100, 10), ("flight", 2, 10, 20, 400, 10), ("flight", 3, 10, 20, 410, 10),
                ("flight", 4, 20, 10, 200, 10), ("flight", 5, 20, 10, 500, 10), ("flight", 6, 20, 10, 510, 10)]
        self.assertEqual(ask_behind(plan, ("fleet",), ("ground", 10), ("ground", 20)),
                         [[0, 2], [0, 2, 2], [0, 0, 2]])

    def test_links_do_not_matter(self):
        self.assertEqual(ask_behind(PAIR, ("build", 1), ("fleet",)), [[0, 1], [0, 1]])


class Ground(unittest.TestCase):
    def test_no_flights(self):
        self.assertEqual(ask(("ground", 0), ("ground", 17575)), [[0, 0, 0], [0, 0, 0]])

    def test_a_station_to_which_none_comes(self):
        self.assertEqual(ask_behind(PAIR, ("station", 30, 0, 1), ("ground", 30), ("ground", 31)),
                         [[0], [0, 0, 0], [0, 0, 0]])

    def test_unbalanced(self):
        plan = PAIR + [("flight", 3, 30, 40, 0, 1)]
        self.assertEqual(ask_behind(plan, ("ground", 10), ("ground", 30), ("ground", 50)), [[-7], [-7], [-7]])

    def test_out_and_back(self):
        self.assertEqual(ask_behind(PAIR, ("ground", 10), ("ground", 20)), [[0, 1, 1], [0, 0, 1]])

    def test_aircraft_get_ready_before_others_leave(self):
        # One leaves 20 at the very minute at which the other gets ready there.
        self.assertEqual(ask_behind(there_and_back(480, 90, 570), ("ground", 20)), [[0, 0, 1]])
        # At minute 500 flight 3 gets ready at 20 while flight 2, whose aircraft stood there overnight, leaves.
        plan = [("flight", 2, 20, 10, 500, 10), ("flight", 3, 10, 20, 400, 100),
                ("flight", 4, 20, 10, 450, 10), ("flight", 5, 10, 20, 600, 10)]
        self.assertEqual(ask_behind(plan, ("ground", 20)), [[0, 1, 1]])

    def test_two_stand_where_one_leaves_as_another_gets_ready(self):
        # Overnight 0; ready at 500, 600; leave at 600, 700: at 600 both stand.
        plan = [("flight", 1, 10, 20, 400, 100), ("flight", 2, 10, 20, 500, 100),
                ("flight", 3, 20, 10, 600, 10), ("flight", 4, 20, 10, 700, 10)]
        self.assertEqual(ask_behind(plan, ("ground", 20)), [[0, 0, 2]])
        self.assertEqual(ask_behind(plan, ("retime", 3, 599), ("ground", 20)), [[0], [0, 0, 1]])

    def test_several_that_get_ready_at_one_minute(self):
        plan = []
        for number in range(1, 4):
            plan += [("flight", number, 10, 20, 400 + number, 100 - number),
                     ("flight", 10 + number, 20, 10, 600, number)]
        self.assertEqual(ask_behind(plan, ("ground", 20), ("ground", 10)), [[0, 0, 3], [0, 3, 3]])

    def test_more_at_the_most_than_overnight(self):
        # At 20: leaves at 100; ready at 200, 300; leaves at 400. Overnight 1, and 2 from 300 to 400.
        plan = [("flight", 1, 20, 10, 100, 10), ("flight", 2, 10, 20, 190, 10), ("flight", 3, 10, 20, 290, 10),
                ("flight", 4, 20, 10, 400, 10)]
        self.assertEqual(ask_behind(plan, ("ground", 20)), [[0, 1, 2]])

    def test_most_stand_overnight(self):
        plan = [("flight", 1, 20, 10, 100, 10), ("flight", 2, 20, 10, 150, 10), ("flight", 3, 10, 20, 990, 10),
                ("flight", 4, 10, 20, 995, 10)]
        self.assertEqual(ask_behind(plan, ("ground", 20), ("ground", 10)), [[0, 2, 2], [0, 0, 2]])

    def test_ready_around_midnight(self):
        for block, back, standing in ((439, 0, [1, 1]), (440, 0, [0, 1]), (441, 0, [1, 1]), (440, 1439, [0, 1]),
                                      (439, 1439, [0, 1]), (439, 1438, [1, 1])):
            with self.subTest(block=block, back=back):
                self.assertEqual(ask_behind(there_and_back(1000, block, back), ("ground", 20)), [[0, *standing]])


if __name__ == "__main__":
    unittest.main()
