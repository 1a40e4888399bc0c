"""Promises 0 to 3: station, flight, cancel, retime."""

import unittest

from tests.helper import ask, ask_behind

# Out at 480, ready at 610; back at 700, ready at 825.
PAIR = [("station", 10, 30, 0), ("station", 20, 40, 1),
        ("flight", 1, 10, 20, 480, 90), ("flight", 2, 20, 10, 700, 95)]
LINKED = PAIR + [("build", 0)]
NEXTS = [("next_of", 1), ("next_of", 2)]
NEXTS_KEPT = [[0, 2, 90, 0], [0, 1, 1095, 1]]
NEXTS_GONE = [[-7], [-7]]


def told(count):
    return [("station", number, 5, 0) for number in range(count)]


def flown(count):
    return [("flight", number, number, number + 1, 0, 1) for number in range(1, count + 1)]


class Station(unittest.TestCase):
    def test_its_turn_is_told(self):
        self.assertEqual(ask_behind(LINKED, *NEXTS), NEXTS_KEPT)
        self.assertEqual(ask_behind(PAIR, ("station", 20, 90, 1), ("build", 0), *NEXTS),
                         [[0], [0, 1], [0, 2, 40, 0], [0, 1, 1095, 1]])

    def test_its_turn_may_be_told_behind_the_flights_and_once_more(self):
        for turn, wait, days in ((0, 130, 0), (130, 0, 0), (131, 1439, 1), (600, 970, 1)):
            with self.subTest(turn=turn):
                answered = ask_behind(PAIR, ("station", 20, 600, 0), ("station", 20, turn, 1), ("build", 0),
                                      ("next_of", 1))
                self.assertEqual(answered, [[0], [0], [0, 1], [0, 2, wait, days]])

    def test_the_turn_of_a_station_of_which_nothing_was_told_is_nought(self):
        answered = ask_behind(PAIR[2:], ("build", 0), *NEXTS)
        self.assertEqual(answered, [[0, 1], [0, 2, 130, 0], [0, 1, 1125, 1]])

    def test_its_hangar_is_told_and_told_once_more(self):
        served = [("build", 0), ("service", 0, 1000)]
        self.assertEqual(ask_behind(PAIR, *served), [[0, 1], [0, 1, 1, 1, 185]])
        answered = ask_behind(PAIR, ("station", 20, 40, 0), *served, ("station", 10, 0, 1), ("station", 20, 0, 1),
                              *served)
        self.assertEqual(answered, [[0], [0, 1], [0, 0, 1, 0, 0], [0], [0], [0, 1], [0, 1, 1, 2, 95]])

    def test_a_station_of_which_nothing_was_told_has_no_hangar(self):
        self.assertEqual(ask_behind(PAIR[2:], ("build", 0), ("service", 0, 1000)), [[0, 1], [0, 0, 1, 0, 0]])

    def test_the_twenty_fourth_and_the_twenty_fifth(self):
        self.assertEqual(ask(*told(26)), [[0]] * 24 + [[-6]] * 2)

    def test_once_more_when_twenty_four_are_told(self):
        self.assertEqual(ask_behind(told(24), ("station", 0, 6, 1), ("station", 23, 7, 1), ("station", 24, 7, 1)),
                         [[0], [0], [-6]])

    def test_a_refused_one_has_no_turn(self):
        answered = ask(*told(24), ("station", 99, 600, 1), ("flight", 1, 98, 99, 0, 60),
                       ("flight", 2, 99, 98, 60, 60), ("fleet",), ("build", 0), ("next_of", 1))
        self.assertEqual(answered[24:], [[-6], [0], [0], [0, 1], [0, 1], [0, 2, 0, 0]])

    def test_stations_of_flights_do_not_count(self):
        self.assertEqual(ask_behind(flown(24), *told(25)), [[0]] * 24 + [[-6]])

    def test_both_ends_of_its_ranges(self):
        self.assertEqual(ask(("station", 0, 0, 0), ("station", 17575, 600, 1)), [[0], [0]])

    def test_links_are_gone_behind_it(self):
        self.assertEqual(ask_behind(LINKED, ("station", 20, 40, 1), *NEXTS), [[0], *NEXTS_GONE])
        self.assertEqual(ask_behind(LINKED, ("station", 99, 0, 0), *NEXTS), [[0], *NEXTS_GONE])

    def test_links_are_kept_behind_a_refusal(self):
        full = [("station", number, 0, 0) for number in range(100, 122)]
        answered = ask_behind(full + LINKED, ("station", 99, 0, 0), ("station", 10, 601, 0), *NEXTS)
        self.assertEqual(answered, [[-6], [-2], *NEXTS_KEPT])


class FlightCall(unittest.TestCase):
    def test_it_is_there(self):
        self.assertEqual(ask(("flight", 7, 10, 20, 0, 1), ("balance",), ("next_of", 7)),
                         [[0], [0, 10, -1, 20, 1], [-7]])

    def test_both_ends_of_its_ranges(self):
        answered = ask(("flight", 1, 0, 17575, 0, 1), ("flight", 9999, 17575, 0, 1439, 2880), ("fleet",),
                       ("build", 1), ("next_of", 1), ("next_of", 9999))
        self.assertEqual(answered, [[0], [0], [0, 3], [0, 1], [0, 9999, 1438, 0], [0, 1, 1, 3]])

    def test_there_already(self):
        self.assertEqual(ask_behind(PAIR, ("flight", 1, 10, 20, 480, 90), ("flight", 2, 30, 40, 0, 1), ("balance",)),
                         [[-5], [-5], [0]])

    def test_the_twenty_fourth_and_the_twenty_fifth(self):
        self.assertEqual(ask(*flown(26)), [[0]] * 24 + [[-6]] * 2)
        self.assertEqual(ask_behind(flown(24), ("flight", 25, 25, 1, 0, 1), ("balance",)),
                         [[-6], [0, 1, -1, 25, 1]])

    def test_a_place_is_free_again_behind_cancel(self):
        self.assertEqual(ask_behind(flown(24), ("cancel", 3), ("flight", 25, 3, 4, 0, 1), ("flight", 3, 3, 4, 0, 1)),
                         [[0], [0], [-6]])

    def test_from_a_station_to_itself(self):
        self.assertEqual(ask(("flight", 1, 10, 10, 0, 1), ("cancel", 1), ("balance",)), [[-8], [-4], [0]])
        self.assertEqual(ask(("flight", 1, 0, 0, 0, 1)), [[-8]])

    def test_which_refusal_comes_first(self):
        self.assertEqual(ask_behind(flown(24), ("flight", 1, 2, 2, 0, 1), ("flight", 25, 2, 2, 0, 1),
                                    ("flight", 24, 1, 2, 0, 1)), [[-5], [-6], [-5]])
        self.assertEqual(ask_behind(flown(1), ("flight", 1, 2, 2, 0, 1)), [[-5]])

    def test_links_are_gone_behind_it(self):
        self.assertEqual(ask_behind(LINKED, ("flight", 3, 10, 20, 0, 1), *NEXTS, ("next_of", 3)),
                         [[0], *NEXTS_GONE, [-7]])

    def test_links_are_kept_behind_a_refusal(self):
        self.assertEqual(ask_behind(LINKED, ("flight", 1, 10, 20, 0, 1), ("flight", 3, 10, 10, 0, 1),
                                    ("flight", 0, 10, 20, 0, 1), *NEXTS), [[-5], [-8], [-2], *NEXTS_KEPT])

    def test_links_are_kept_when_the_table_is_full(self):
        loop = []
        for number in range(1, 25, 2):
            loop += [("flight", number, number, number + 1, 0, 1), ("flight", number + 1, number + 1, number, 9, 1)]
        self.assertEqual(ask_behind(loop + [("build", 0)], ("flight", 25, 1, 2, 0, 1), ("next_of", 23)),
                         [[-6], [0, 24, 8, 0]])


class Cancel(unittest.TestCase):
    def test_it_is_not_there_any_more(self):
        self.assertEqual(ask_behind(PAIR, ("cancel", 1), ("balance",), ("next_of", 1), ("retime", 1, 0),
                                    ("cancel", 1), ("cancel", 2), ("balance",)),
                         [[0], [0, 10, 1, 20, -1], [-4], [-4], [-4], [0], [0]])

    def test_it_may_be_told_anew(self):
        self.assertEqual(ask_behind(PAIR, ("cancel", 1), ("flight", 1, 10, 20, 500, 90), ("build", 0), *NEXTS),
                         [[0], [0], [0, 1], [0, 2, 70, 0], [0, 1, 1115, 1]])

    def test_no_such_flight(self):
        self.assertEqual(ask(("cancel", 1), ("cancel", 9999)), [[-4], [-4]])
        self.assertEqual(ask_behind(PAIR, ("cancel", 3), ("balance",)), [[-4], [0]])

    def test_links_are_gone_behind_it(self):
        self.assertEqual(ask_behind(LINKED, ("cancel", 1), *NEXTS), [[0], [-4], [-7]])

    def test_links_are_kept_behind_a_refusal(self):
        self.assertEqual(ask_behind(LINKED, ("cancel", 3), ("cancel", 10000), *NEXTS), [[-4], [-2], *NEXTS_KEPT])


class Retime(unittest.TestCase):
    def test_it_leaves_then_from_now_on(self):
        self.assertEqual(ask_behind(PAIR, ("retime", 2, 600), ("fleet",), ("build", 0), *NEXTS),
                         [[0], [0, 2], [0, 1], [0, 2, 1430, 1], [0, 1, 1195, 1]])

    def test_all_else_of_it_stays(self):
        self.assertEqual(ask_behind(PAIR, ("retime", 1, 0), ("retime", 1, 480), ("balance",), ("build", 0), *NEXTS),
                         [[0], [0], [0], [0, 1], *NEXTS_KEPT])

    def test_both_ends_of_the_day(self):
        self.assertEqual(ask_behind(PAIR, ("retime", 2, 0), ("build", 0), *NEXTS),
                         [[0], [0, 1], [0, 2, 830, 1], [0, 1, 355, 0]])
        self.assertEqual(ask_behind(PAIR, ("retime", 2, 1439), ("build", 0), *NEXTS),
                         [[0], [0, 1], [0, 2, 829, 0], [0, 1, 356, 1]])

    def test_no_such_flight(self):
        self.assertEqual(ask(("retime", 1, 0)), [[-4]])
        self.assertEqual(ask_behind(PAIR, ("retime", 3, 700), ("retime", 9999, 0)), [[-4], [-4]])

    def test_links_are_gone_behind_it(self):
        self.assertEqual(ask_behind(LINKED, ("retime", 1, 481), *NEXTS), [[0], *NEXTS_GONE])

    def test_links_are_gone_also_if_it_left_then_before(self):
        self.assertEqual(ask_behind(LINKED, ("retime", 1, 480), *NEXTS), [[0], *NEXTS_GONE])

    def test_links_are_kept_behind_a_refusal(self):
        self.assertEqual(ask_behind(LINKED, ("retime", 3, 0), ("retime", 1, 1440), ("retime", 1, -1), *NEXTS),
                         [[-4], [-2], [-2], *NEXTS_KEPT])


if __name__ == "__main__":
    unittest.main()
