"""Promises 4 to 8 on many plans, beside aircraft that are moved minute by minute."""

import random
import unittest

from tests.helper import ask

DAY = 1440
FIRST_OUT = 0
LAST_OUT = 1


class Plan:
    """Balanced flights, as tuples (number, src, dst, dep, block), and the stations' turns."""

    def __init__(self, seed):
        chance = random.Random(seed)
        names = chance.sample([0, 7, 50, 333, 4000, 17575], chance.randint(2, 4))
        self.turns = {name: chance.choice([0, 1, 30, 45, 600]) for name in names if chance.random() < 0.8}
        minutes = chance.choice([range(DAY), [0, 1, 500, 501, 1438, 1439], range(0, DAY, 240)])
        blocks = chance.choice([range(1, 2881), [1, 60, 1440, 2880], range(120, 1000, 120), range(30, 300)])
        self.flights = []
        ends = self.closed_walks(chance, names)
        for number, (src, dst) in zip(chance.sample(range(1, 10000), len(ends)), ends):
            self.flights.append((number, src, dst, chance.choice(minutes), chance.choice(blocks)))
        chance.shuffle(self.flights)
        self.stations = sorted({flight[1] for flight in self.flights})

    def closed_walks(self, chance, names):
        ends = []
        while len(ends) <= 20 and (not ends or chance.random() < 0.8):
            legs = chance.sample(names, chance.randint(2, len(names)))
            ends += list(zip(legs, legs[1:] + legs[:1]))
        return ends

    def ready(self, flight):
        return flight[3] + flight[4] + self.turns.get(flight[2], 0)

    def calls(self):
        told = [("station", name, turn, 0) for name, turn in self.turns.items()]
        return told + [("flight", *flight) for flight in self.flights]

    def at_minutes(self, station):
        """For each minute, the numbers of the flights that get ready and of those that leave."""
        day = [([], []) for minute in range(DAY)]
        for flight in sorted(self.flights):
            if flight[2] == station:
                day[self.ready(flight) % DAY][0].append(flight[0])
            if flight[1] == station:
                day[flight[3]][1].append(flight[0])
        return day

    def standing(self, station):
        """The fewest that must stand at the day's beginning so that none lacks, and the most that stand then."""
        fewest = 0
        while True:
            stand = most = fewest
            enough = True
            for ready, leaving in self.at_minutes(station):
                stand += len(ready)
                most = max(most, stand)
                stand -= len(leaving)
                enough = enough and stand >= 0
            if enough:
                return [fewest, most]
            fewest += 1

    def flown_next(self, rule):
        """From each flight to the next and the wait, as seen on the third of three days."""
        links = {}
        for station in self.stations:
            stand = [(None, 0)] * self.standing(station)[0]
            for today in range(3):
                for minute, (ready, leaving) in enumerate(self.at_minutes(station)):
                    now = today * DAY + minute
                    stand += [(number, now) for number in ready]
                    for number in leaving:
                        came, since = stand.pop(0 if rule == FIRST_OUT else -1)
                        if today == 2:
                            links[came] = (number, now - since)
        return links


def rotation_count(links):
    unseen = set(links)
    count = 0
    while unseen:
        number = min(unseen)
        count += 1
        while number in unseen:
            unseen.remove(number)
            number = links[number][0]
    return count


class Simulation(unittest.TestCase):
    def check(self, plan):
        calls = plan.calls() + [("balance",), ("fleet",)] + [("ground", name) for name in plan.stations]
        told = ask(*calls)[len(plan.calls()):]
        grounds = [plan.standing(name) for name in plan.stations]
        fleet = sum(plan.ready(flight) // DAY for flight in plan.flights) + sum(night for night, most in grounds)
        self.assertEqual(told, [[0], [0, fleet]] + [[0, *ground] for ground in grounds])
        for rule in (FIRST_OUT, LAST_OUT):
            self.check_links(plan, rule, fleet)

    def check_links(self, plan, rule, fleet):
        links = plan.flown_next(rule)
        asked = [("next_of", flight[0]) for flight in plan.flights]
        told = ask(*plan.calls(), ("build", rule), *asked)[len(plan.calls()):]
        self.assertEqual(told[0], [0, rotation_count(links)])
        for flight, answer in zip(plan.flights, told[1:]):
            number, wait = links[flight[0]]
            self.assertEqual(answer, [0, number, wait, (plan.ready(flight) + wait) // DAY])
        # Each aircraft of the fleet is on just one link at any day's beginning.
        self.assertEqual(sum(answer[3] for answer in told[1:]), fleet)

    def test_many_plans(self):
        for seed in range(150):
            with self.subTest(seed=seed):
                self.check(Plan(seed))


if __name__ == "__main__":
    unittest.main()
