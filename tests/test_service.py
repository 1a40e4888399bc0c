"""Promise 13: service."""

import unittest

from tests.helper import ALL_TOLD, APART, FIRST_OUT, FOUR, LAST_OUT, ask, ask_behind

# One rotation 1, 2, 3 round 10, 20, 30. Behind flight 1 its aircraft stands 100 minutes at 20, of which the turn is 20;
# behind 2 it stands 150 at 30 (turn 30), behind 3 it stands 740 at 10 (turn 40).
RING = [("flight", 3, 30, 10, 900, 200), ("flight", 1, 10, 20, 400, 100), ("flight", 2, 20, 30, 600, 150)]


def ring(at_10, at_20, at_30):
    """The rotation's stations with their hangars, and the rotation."""
    told = [("station", 10, 40, at_10), ("station", 20, 20, at_20), ("station", 30, 30, at_30)]
    return told + RING + [("build", 0)]


class Service(unittest.TestCase):
    def check(self, linked, need, most, told):
        self.assertEqual(ask_behind(linked, ("service", need, most)), [[0, *told]])

    def test_no_hangar(self):
        self.check(ring(0, 0, 0), 0, 1000000, [0, 1, 0, 0])
        self.check(RING + [("build", 1)], 0, 1000000, [0, 1, 0, 0])

    def test_one_chance(self):
        for hangars in ((1, 0, 0), (0, 1, 0), (0, 0, 1)):
            with self.subTest(hangars=hangars):
                self.check(ring(*hangars), 100, 450, [1, 1, 1, 450])

    def test_several_chances(self):
        self.check(ring(1, 1, 1), 100, 450, [1, 1, 3, 200])
        self.check(ring(1, 0, 1), 100, 450, [1, 1, 2, 250])
        self.check(ring(1, 1, 0), 100, 450, [1, 1, 2, 350])

    def test_a_stretch_around_the_rotations_end(self):
        # From behind flight 2 up to and with flight 1, over the head: 3 and 1.
        self.check(ring(0, 1, 1), 100, 450, [1, 1, 2, 300])

    def test_need_just_met_and_just_not_met(self):
        self.check(ring(0, 1, 0), 100, 450, [1, 1, 1, 450])
        self.check(ring(0, 1, 0), 101, 450, [0, 1, 0, 0])
        self.check(ring(1, 1, 1), 101, 450, [1, 1, 2, 250])
        self.check(ring(1, 1, 1), 150, 450, [1, 1, 2, 250])
        self.check(ring(1, 1, 1), 151, 450, [1, 1, 1, 450])
        self.check(ring(1, 1, 1), 740, 450, [1, 1, 1, 450])
        self.check(ring(1, 1, 1), 741, 450, [0, 1, 0, 0])

    def test_most_just_kept_and_just_passed(self):
        self.check(ring(1, 1, 1), 0, 200, [1, 1, 3, 200])
        self.check(ring(1, 1, 1), 0, 199, [0, 1, 3, 200])
        self.check(ring(0, 1, 1), 0, 300, [1, 1, 2, 300])
        self.check(ring(0, 1, 1), 0, 299, [0, 1, 2, 300])
        self.check(ring(0, 0, 1), 0, 450, [1, 1, 1, 450])
        self.check(ring(0, 0, 1), 0, 449, [0, 1, 1, 450])

    def test_need_nought_needs_a_hangar(self):
        # Ready at the very minute at which the next one leaves, and no turn.
        plan = [("flight", 1, 10, 20, 480, 90), ("flight", 2, 20, 10, 570, 60)]
        self.check(plan + [("build", 0)], 0, 1000, [0, 1, 0, 0])
        self.check([("station", 20, 0, 1)] + plan + [("build", 0)], 0, 1000, [1, 1, 1, 150])
        self.check([("station", 20, 0, 1)] + plan + [("build", 0)], 1, 1000, [0, 1, 0, 0])

    def test_the_longest_need(self):
        # The wait is 1439 minutes; with a turn of one minute that's a day, with none it's a minute less.
        for turn, back, told in ((0, 89, [0, 1, 0, 0]), (1, 90, [1, 1, 1, 91]), (600, 689, [1, 1, 1, 91])):
            with self.subTest(turn=turn):
                plan = [("station", 20, turn, 1), ("flight", 1, 10, 20, 0, 90), ("flight", 2, 20, 10, back, 1)]
                linked = plan + [("build", 0)]
                self.assertEqual(ask_behind(linked, ("next_of", 1)), [[0, 2, 1439, 1]])
                self.check(linked, 1440, 1000000, told)

    def test_the_wait_is_the_links_and_not_the_flights(self):
        # At 20 flights 1 and 2 wait 300 and 390 first out, 400 and 290 last out.
        hangar = [("station", 20, 0, 1)]
        first = hangar + FOUR + [("build", FIRST_OUT)]
        last = hangar + FOUR + [("build", LAST_OUT)]
        self.check(first, 290, 600, [1, 1, 2, 400])
        self.check(first, 300, 600, [1, 1, 2, 400])
        self.check(first, 301, 600, [1, 1, 1, 600])
        self.check(first, 391, 600, [0, 1, 0, 0])
        self.check(last, 290, 600, [1, 1, 2, 400])
        self.check(last, 300, 600, [1, 1, 1, 600])
        self.check(last, 400, 600, [1, 1, 1, 600])
        self.check(last, 401, 600, [0, 1, 0, 0])

    def test_a_rotation_without_a_chance_beside_one_with_some(self):
        linked = [("station", 30, 0, 1)] + FOUR + APART + [("build", 0)]
        self.check(linked, 0, 1000000, [0, 1, 0, 0, 7, 1, 20])
        linked = [("station", 20, 0, 1)] + FOUR + APART + [("build", 0)]
        self.check(linked, 0, 1000000, [0, 1, 2, 400, 7, 0, 0])

    def test_all_rotations_by_rising_heads(self):
        linked = [("station", 20, 0, 1), ("station", 40, 0, 1)] + APART + FOUR + [("build", 0)]
        self.check(linked, 0, 400, [1, 1, 2, 400, 7, 1, 20])
        # The first is flown too long, and then the second one too.
        self.check(linked, 0, 399, [0, 1, 2, 400, 7, 1, 20])
        self.check(linked, 0, 19, [0, 1, 2, 400, 7, 1, 20])

    def test_only_the_second_is_flown_too_long(self):
        plan = [("station", 20, 0, 1), ("station", 40, 0, 1), *FOUR,
                ("flight", 7, 30, 40, 0, 1000), ("flight", 8, 40, 30, 1100, 200)]
        self.check(plan + [("build", 0)], 0, 1199, [0, 1, 2, 400, 7, 1, 1200])
        self.check(plan + [("build", 0)], 0, 1200, [1, 1, 2, 400, 7, 1, 1200])

    def test_the_most_flying_that_there_can_be(self):
        plan = []
        for number in range(1, 25):
            plan.append(("flight", number, number, number % 24 + 1, 0, 2880))
        linked = [("station", 5, 600, 1)] + plan + [("build", 1)]
        self.check(linked, 1440, 69120, [1, 1, 1, 69120])
        self.check(linked, 1440, 69119, [0, 1, 1, 69120])

    def test_a_chance_behind_each_flight(self):
        told = [("station", number, 0, 1) for number in range(1, 25)]
        plan = [("flight", number, number, number % 24 + 1, 60 * number - 60, 20 + number) for number in range(1, 25)]
        self.check(told + plan + [("build", 0)], 10, 44, [1, 1, 24, 44])
        # Behind flights 1 to 20 there are at least 20 minutes; the rest is flown up to and with flight 1.
        self.check(told + plan + [("build", 0)], 20, 191, [1, 1, 20, 191])
        self.check(told + plan + [("build", 0)], 20, 190, [0, 1, 20, 191])

    def test_the_ends_of_its_ranges(self):
        self.assertEqual(ask_behind(ring(1, 1, 1), ("service", 0, 1), ("service", 1440, 1000000), ("service", -1, 1),
                                    ("service", 1441, 1), ("service", 0, 0), ("service", 0, 1000001)),
                         [[0, 0, 1, 3, 200], [0, 0, 1, 0, 0], [-2], [-2], [-2], [-2]])

    def test_no_links(self):
        self.assertEqual(ask(("service", 0, 1)), [[-7]])
        self.assertEqual(ask_behind(FOUR, ("service", 0, 1), ("service", 1441, 1)), [[-7], [-2]])

    def test_it_changes_nothing(self):
        linked = [("station", 10, 0, 1)] + FOUR + [("build", 0)]
        self.assertEqual(ask_behind(linked, ("service", 300, 5), ("service", 1441, 5), *ALL_TOLD)[2:],
                         ask_behind(linked, *ALL_TOLD))


if __name__ == "__main__":
    unittest.main()
