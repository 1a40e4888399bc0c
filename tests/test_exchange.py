"""Promises 11 and 12: swap and merge."""

import unittest

from tests.helper import ALL_TOLD, APART, FIRST_OUT, FOUR, LAST_OUT, ask, ask_behind, following, nexts

# At 20 flight 1 stands from 400 to 700, flight 2 from 750 to 800: to exchange them takes a day more. At 10 flight 11
# stands from 800 to 300, flight 12 from 900 to 650. The rotations are 1, 11 and 2, 12.
BESIDE = [("flight", 1, 10, 20, 300, 100), ("flight", 2, 10, 20, 650, 100),
          ("flight", 11, 20, 10, 700, 100), ("flight", 12, 20, 10, 800, 100)]

# Flight 1 stands at 20 from 400 to 450 and 2 from 1100 to 1150; at 10 flight 11 stands from 550 to 300 and 12 from 310
# to 500. The rotations are 1, 11 and 2, 12, and no exchange is free.
NEVER = [("flight", 1, 10, 20, 300, 100), ("flight", 11, 20, 10, 450, 100),
         ("flight", 2, 10, 20, 500, 600), ("flight", 12, 20, 10, 1150, 600)]

# Three aircraft that fly out and back, each the same two flights; each two exchanges are free.
THREE = [("flight", 3, 10, 20, 320, 100), ("flight", 1, 10, 20, 300, 100), ("flight", 2, 10, 20, 310, 100),
         ("flight", 13, 20, 10, 720, 100), ("flight", 11, 20, 10, 700, 100), ("flight", 12, 20, 10, 710, 100)]


class Swap(unittest.TestCase):
    def test_two_of_one_rotation_make_two(self):
        self.assertEqual(ask_behind(FOUR, ("build", FIRST_OUT), ("swap", 1, 2), *nexts(1, 2, 11, 12), ("rotations",)),
                         [[0, 1], [0, 2], [0, 12, 400, 0], [0, 11, 290, 0], [0, 2, 750, 1], [0, 1, 840, 1],
                          [0, 1, 2, 1, 2, 2, 1]])
        self.assertEqual(ask_behind(FOUR, ("build", LAST_OUT), ("swap", 1, 2), *nexts(1, 2, 11, 12), ("rotations",)),
                         [[0, 1], [0, 2], [0, 11, 300, 0], [0, 12, 390, 0], [0, 1, 740, 1], [0, 2, 850, 1],
                          [0, 1, 2, 1, 2, 2, 1]])

    def test_over_midnight(self):
        self.assertEqual(ask_behind(FOUR, ("build", FIRST_OUT), ("swap", 11, 12), *nexts(1, 2, 11, 12), ("rotations",)),
                         [[0, 1], [0, 2], [0, 11, 300, 0], [0, 12, 390, 0], [0, 1, 740, 1], [0, 2, 850, 1],
                          [0, 1, 2, 1, 2, 2, 1]])

    def test_two_of_unlike_rotations_make_one(self):
        answered = ask_behind(FOUR, ("build", FIRST_OUT), ("swap", 1, 2), ("swap", 11, 12), ("rotation", 1))
        self.assertEqual(answered, [[0, 1], [0, 2], [0, 1], [0, 2, 1, 12, 2, 11]])

    def test_the_other_way_round_is_the_same(self):
        asked = [*nexts(1, 2, 11, 12), ("rotations",)]
        self.assertEqual(ask_behind(FOUR, ("build", 0), ("swap", 2, 1), *asked),
                         ask_behind(FOUR, ("build", 0), ("swap", 1, 2), *asked))

    def test_twice_is_as_it_was(self):
        linked = FOUR + [("build", 0)]
        self.assertEqual(ask_behind(linked, ("swap", 1, 2), ("swap", 1, 2), *ALL_TOLD)[2:],
                         ask_behind(linked, *ALL_TOLD))

    def test_rotations_that_it_does_not_touch_are_counted(self):
        self.assertEqual(ask_behind(FOUR + APART, ("build", 0), ("swap", 1, 2), ("rotations",)),
                         [[0, 2], [0, 3], [0, 1, 2, 1, 2, 2, 1, 7, 2, 1]])

    def test_not_free(self):
        linked = BESIDE + [("build", 0)]
        self.assertEqual(ask_behind(linked, ("swap", 1, 2), ("swap", 2, 1), *ALL_TOLD),
                         [[-8], [-8], *ask_behind(linked, *ALL_TOLD)])

    def test_not_free_in_one_rotation(self):
        # One aircraft flies 1, 11, 2, 12 on one day; were they exchanged, there would have to be two.
        plan = [("flight", 1, 10, 20, 300, 100), ("flight", 11, 20, 10, 500, 50),
                ("flight", 2, 10, 20, 600, 100), ("flight", 12, 20, 10, 800, 100)]
        for rule in (FIRST_OUT, LAST_OUT):
            self.assertEqual(ask_behind(plan, ("build", rule), ("swap", 1, 2), ("swap", 11, 12), ("rotation", 1)),
                             [[0, 1], [-8], [-8], [0, 1, 1, 11, 2, 12]])

    def test_at_the_very_minute_it_is_free_and_a_minute_later_not(self):
        # Flight 2 is ready just when flight 11 leaves.
        plan = [("flight", 1, 10, 20, 300, 100), ("flight", 11, 20, 10, 700, 100), ("flight", 12, 20, 10, 800, 100)]
        for block, answer in ((100, [0, 1]), (101, [-8])):
            with self.subTest(block=block):
                self.assertEqual(ask_behind(plan + [("flight", 2, 10, 20, 600, block)], ("build", 0), ("swap", 1, 2)),
                                 [[0, 2], answer])

    def test_the_turn_counts(self):
        plan = [("flight", 1, 10, 20, 300, 100), ("flight", 11, 20, 10, 700, 100), ("flight", 12, 20, 10, 800, 100),
                ("flight", 2, 10, 20, 600, 60)]
        for turn, answer in ((40, [0, 1]), (41, [-8])):
            with self.subTest(turn=turn):
                self.assertEqual(ask_behind(plan + [("station", 20, turn, 0)], ("build", 0), ("swap", 1, 2)),
                                 [[0, 2], answer])

    def test_flights_that_come_to_unlike_stations(self):
        linked = FOUR + APART + [("build", 0)]
        swaps = [("swap", 1, 11), ("swap", 11, 1), ("swap", 1, 7), ("swap", 7, 8)]
        self.assertEqual(ask_behind(linked, *swaps, *ALL_TOLD),
                         [[-8], [-8], [-8], [-8], *ask_behind(linked, *ALL_TOLD)])

    def test_a_flight_with_itself(self):
        linked = FOUR + [("build", 0)]
        self.assertEqual(ask_behind(linked, ("swap", 1, 1), ("swap", 12, 12), *ALL_TOLD),
                         [[-8], [-8], *ask_behind(linked, *ALL_TOLD)])

    def test_no_such_flight(self):
        linked = FOUR + [("build", 0)]
        self.assertEqual(ask_behind(linked, ("swap", 3, 1), ("swap", 1, 3), ("swap", 3, 4), ("swap", 3, 3), *ALL_TOLD),
                         [[-4], [-4], [-4], [-4], *ask_behind(linked, *ALL_TOLD)])

    def test_no_links(self):
        self.assertEqual(ask_behind(FOUR, ("swap", 1, 2)), [[-7]])

    def test_which_refusal_comes_first(self):
        # No such flight, then no links, then what doesn't fit; out of range before all.
        self.assertEqual(ask(("swap", 1, 1), ("swap", 1, 2), ("swap", 0, 1), ("swap", 1, 10000)),
                         [[-4], [-4], [-2], [-2]])
        self.assertEqual(ask_behind(FOUR, ("swap", 1, 3), ("swap", 3, 1), ("swap", 1, 1), ("swap", 1, 11),
                                    ("swap", 1, 0), ("swap", 10000, 3)),
                         [[-4], [-4], [-7], [-7], [-2], [-2]])

    def test_it_tells_nothing_of_the_fleet_anew(self):
        self.assertEqual(ask_behind(FOUR, ("fleet",), ("build", 0), ("swap", 1, 2), ("fleet",)),
                         [[0, 2], [0, 1], [0, 2], [0, 2]])


class Merge(unittest.TestCase):
    def test_nothing_to_merge(self):
        linked = FOUR + [("build", 0)]
        self.assertEqual(ask_behind(linked, ("merge",), *ALL_TOLD), [[0, 1], *ask_behind(linked, *ALL_TOLD)])

    def test_behind_swap(self):
        self.assertEqual(ask_behind(FOUR, ("build", 0), ("swap", 11, 12), ("merge",), *nexts(1, 2, 11, 12)),
                         [[0, 1], [0, 2], [0, 1], [0, 12, 400, 0], [0, 11, 290, 0], [0, 1, 740, 1], [0, 2, 850, 1]])

    def test_a_pair_that_is_not_free_is_left(self):
        # Flights 1 and 2 can't be exchanged, 11 and 12 can.
        answered = ask_behind(BESIDE, ("build", FIRST_OUT), ("merge",), ("rotation", 1), ("rotations",))
        self.assertEqual(answered, [[0, 2], [0, 1], [0, 2, 1, 11, 2, 12], [0, 1, 4, 2]])

    def test_none_is_free(self):
        linked = NEVER + [("build", 0)]
        self.assertEqual(ask_behind(linked, ("merge",), *ALL_TOLD), [[0, 2], *ask_behind(linked, *ALL_TOLD)])
        self.assertEqual(ask_behind(linked, ("rotations",)), [[0, 1, 2, 1, 2, 2, 1]])

    def test_rotations_that_never_meet(self):
        for rule in (FIRST_OUT, LAST_OUT):
            self.assertEqual(ask_behind(FOUR + APART, ("build", rule), ("merge",), ("rotations",)),
                             [[0, 2], [0, 2], [0, 1, 4, 2, 7, 2, 1]])

    def test_the_smallest_second_flight(self):
        # Flights 1 and 2, then 1 and 3 (which takes what 1 then has, 12).
        answered = ask_behind(THREE, ("build", FIRST_OUT), ("merge",), ("rotation", 1), *nexts(1, 2, 3))
        self.assertEqual(answered[:3], [[0, 3], [0, 1], [0, 3, 1, 13, 3, 12, 2, 11]])
        self.assertEqual(following(answered[3:]), [13, 11, 12])

    def test_the_smallest_first_flight(self):
        # The rotations are 1, 12, 2, 11 and 3, 14, 4, 13; 1 and 4 come before 2 and 3, though 3 is smaller than 4.
        plan = [("flight", 1, 10, 20, 1300, 100), ("flight", 2, 10, 20, 0, 100), ("flight", 3, 10, 20, 1200, 500),
                ("flight", 4, 10, 20, 400, 1000), ("flight", 11, 20, 10, 700, 500), ("flight", 12, 20, 10, 200, 1000),
                ("flight", 13, 20, 10, 500, 100), ("flight", 14, 20, 10, 1200, 200)]
        linked = plan + [("build", FIRST_OUT)]
        self.assertEqual(ask_behind(linked, ("rotation", 1), ("rotation", 3)),
                         [[0, 2, 1, 12, 2, 11], [0, 3, 3, 14, 4, 13]])
        for pair, answer in (((1, 3), [-8]), ((1, 4), [0, 1]), ((2, 3), [0, 1])):
            self.assertEqual(ask_behind(linked, ("swap", *pair)), [answer])
        self.assertEqual(ask_behind(linked, ("merge",), ("rotation", 1)), [[0, 1], [0, 5, 1, 13, 3, 14, 4, 12, 2, 11]])

    def test_looked_for_anew_each_time(self):
        # 1 and 2 can't be exchanged at first; 1 and 3 are, and then 1 and 2 can be.
        plan = [("flight", 1, 10, 20, 700, 100), ("flight", 2, 10, 20, 700, 200), ("flight", 3, 10, 20, 100, 200),
                ("flight", 11, 20, 10, 800, 1000), ("flight", 12, 20, 10, 1200, 200), ("flight", 13, 20, 10, 1100, 200)]
        linked = plan + [("build", LAST_OUT)]
        self.assertEqual(ask_behind(linked, ("rotation", 1), ("rotation", 2), ("rotation", 3), ("swap", 1, 2)),
                         [[0, 1, 1, 11], [0, 1, 2, 13], [0, 1, 3, 12], [-8]])
        self.assertEqual(ask_behind(linked, ("merge",), ("rotation", 1)), [[0, 1], [0, 3, 1, 13, 2, 12, 3, 11]])
        self.assertEqual(ask_behind(linked, ("swap", 1, 3), ("swap", 1, 2), ("rotation", 1))[2:],
                         ask_behind(linked, ("merge",), ("rotation", 1))[1:])

    def test_it_keeps_to_unlike_rotations(self):
        # All flights that come to one station could be exchanged for ever; a second time changes nothing.
        linked = THREE + [("build", 0), ("merge",)]
        self.assertEqual(ask_behind(linked, ("merge",), *ALL_TOLD), [[0, 1], *ask_behind(linked, *ALL_TOLD)])

    def test_twenty_four_flights(self):
        plan = []
        for number in range(1, 13):
            plan += [("flight", number, 10, 20, number, 100), ("flight", 100 + number, 20, 10, 700 + number, 100)]
        answered = ask_behind(plan, ("build", 0), ("merge",), ("rotations",))
        self.assertEqual(answered, [[0, 12], [0, 1], [0, 1, 24, 12]])

    def test_no_links(self):
        self.assertEqual(ask(("merge",)), [[-7]])
        self.assertEqual(ask_behind(FOUR, ("merge",), ("next_of", 1)), [[-7], [-7]])


class LinksThen(unittest.TestCase):
    """What the other calls tell behind swap and merge, and what takes these links away."""

    HANGAR = [("station", 10, 30, 1)]
    ASKED = [("next_of", 1), ("rotation", 1), ("rotations",), ("service", 0, 300), ("after", 1, 2), ("at", 1, 1, 700)]

    def test_as_built(self):
        # 1 at 300, 11 at 700, a day later 2 at 310, 12 at 800.
        self.assertEqual(ask_behind(self.HANGAR + FOUR + [("build", 0)], *self.ASKED),
                         [[0, 11, 300, 0], [0, 2, 1, 11, 2, 12], [0, 1, 4, 2], [0, 0, 1, 2, 400], [0, 4, 600, 1],
                          [0, 0, 20]])

    def test_behind_swap(self):
        self.assertEqual(ask_behind(self.HANGAR + FOUR + [("build", 0), ("swap", 1, 2)], *self.ASKED),
                         [[0, 12, 400, 0], [0, 1, 1, 12], [0, 1, 2, 1, 2, 2, 1], [0, 0, 1, 1, 200, 2, 1, 400],
                          [0, 4, 400, 1], [0, 0, 20]])

    def test_behind_merge(self):
        linked = self.HANGAR + FOUR + [("build", 0), ("swap", 11, 12)]
        self.assertEqual(ask_behind(linked, *self.ASKED),
                         [[0, 11, 300, 0], [0, 1, 1, 11], [0, 1, 2, 1, 2, 2, 1], [0, 0, 1, 1, 400, 2, 1, 200],
                          [0, 4, 800, 1], [0, 1, 11]])
        self.assertEqual(ask_behind(linked + [("merge",)], *self.ASKED),
                         [[0, 12, 400, 0], [0, 2, 1, 12, 2, 11], [0, 1, 4, 2], [0, 0, 1, 2, 400], [0, 4, 600, 1],
                          [0, 1, 11]])

    def test_build_makes_them_anew(self):
        for rule in (FIRST_OUT, LAST_OUT):
            self.assertEqual(ask_behind(FOUR, ("build", rule), ("swap", 1, 2), ("build", rule), *self.ASKED)[3:],
                             ask_behind(FOUR, ("build", rule), *self.ASKED)[1:])

    def test_taken_away(self):
        asked = [*self.ASKED, ("swap", 1, 2), ("merge",)]
        changes = [("station", 10, 30, 1), ("station", 99, 0, 0), ("flight", 5, 10, 20, 0, 1), ("cancel", 12),
                   ("retime", 2, 310), ("retime", 2, 311)]
        for changed in (("swap", 1, 2), ("swap", 11, 12), ("merge",)):
            for call in changes:
                with self.subTest(changed=changed, call=call):
                    linked = self.HANGAR + FOUR + [("build", 0), changed, call]
                    self.assertEqual(ask_behind(linked, *asked), [[-7]] * len(asked))

    def test_kept_behind_refusals_of_those(self):
        refused = [("station", 10, 601, 1), ("flight", 1, 10, 20, 0, 1), ("flight", 5, 10, 10, 0, 1), ("cancel", 3),
                   ("retime", 3, 0), ("build", 2)]
        linked = FOUR + [("build", 0), ("swap", 1, 2)]
        self.assertEqual(ask_behind(linked, *refused, *ALL_TOLD),
                         [[-2], [-5], [-8], [-4], [-4], [-2], *ask_behind(linked, *ALL_TOLD)])


if __name__ == "__main__":
    unittest.main()
