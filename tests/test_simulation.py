"""Promises 4 to 16 on many plans, beside aircraft that are moved minute by minute."""

import itertools
import random
import unittest

from tests.helper import FIRST_OUT, LAST_OUT, ask, ask_behind, nexts

DAY = 1440
FAR = 10 ** 12


class Plan:
    """Balanced flights, as tuples (number, src, dst, dep, block), and the stations' turns and hangars."""

    def __init__(self, seed):
        chance = random.Random(seed)
        names = chance.sample([0, 7, 50, 333, 4000, 17575], chance.randint(2, 4))
        self.turns = {name: chance.choice([0, 1, 30, 45, 600]) for name in names if chance.random() < 0.8}
        self.hangars = {name: number % 2 for number, name in enumerate(self.turns, start=chance.randint(0, 1))}
        minutes = chance.choice([range(DAY), [0, 1, 500, 501, 1438, 1439], range(0, DAY, 240)])
        blocks = chance.choice([range(1, 2881), [1, 60, 1440, 2880], range(120, 1000, 120), range(30, 300)])
        self.flights = []
        ends = self.closed_walks(chance, names)
        for number, (src, dst) in zip(chance.sample(range(1, 10000), len(ends)), ends):
            self.flights.append((number, src, dst, chance.choice(minutes), chance.choice(blocks)))
        chance.shuffle(self.flights)
        self.stations = sorted({flight[1] for flight in self.flights})

    def closed_walks(self, chance, names):
        ends = []
        while len(ends) <= 20 and (not ends or chance.random() < 0.8):
            legs = chance.sample(names, chance.randint(2, len(names)))
            ends += list(zip(legs, legs[1:] + legs[:1]))
        return ends

    def ready(self, flight):
        return flight[3] + flight[4] + self.turns.get(flight[2], 0)

    def calls(self):
        told = [("station", name, turn, self.hangars[name]) for name, turn in self.turns.items()]
        return told + [("flight", *flight) for flight in self.flights]

    def at_minutes(self, station):
        """For each minute, the numbers of the flights that get ready and of those that leave."""
        day = [([], []) for minute in range(DAY)]
        for flight in sorted(self.flights):
            if flight[2] == station:
                day[self.ready(flight) % DAY][0].append(flight[0])
            if flight[1] == station:
                day[flight[3]][1].append(flight[0])
        return day

    def fleet(self):
        """All that fly or stand at the beginning of a day."""
        flying = sum(self.ready(flight) // DAY for flight in self.flights)
        return flying + sum(self.fewest(station) for station in self.stations)

    def fewest(self, station):
        """As standing tells it, from the moments of the day alone."""
        moments = [(self.ready(flight) % DAY, -1) for flight in self.flights if flight[2] == station]
        moments += [(flight[3], 1) for flight in self.flights if flight[1] == station]
        return max(0, *itertools.accumulate(change for minute, change in sorted(moments)))

    def better(self, width):
        """The flight, minute and fleet, by trying all of them."""
        kept = self.flights
        tried = [(self.fleet(), 0, 0)]
        for place, (number, src, dst, dep, block) in enumerate(kept):
            for minute in range(max(0, dep - width), min(DAY, dep + width + 1)):
                self.flights = kept[:place] + [(number, src, dst, minute, block)] + kept[place + 1:]
                tried.append((self.fleet(), number, minute))
        self.flights = kept
        fleet, number, minute = min(tried)
        return [number, minute, fleet] if number else []

    def standing(self, station):
        """The fewest that must stand at the day's beginning so that none lacks, and the most that stand then."""
        fewest = 0
        while True:
            stand = most = fewest
            enough = True
            for ready, leaving in self.at_minutes(station):
                stand += len(ready)
                most = max(most, stand)
                stand -= len(leaving)
                enough = enough and stand >= 0
            if enough:
                return [fewest, most]
            fewest += 1

    def flown_next(self, rule):
        """From each flight to the next and the wait, as seen on the third of three days."""
        links = {}
        for station in self.stations:
            stand = [(None, 0)] * self.standing(station)[0]
            for today in range(3):
                for minute, (ready, leaving) in enumerate(self.at_minutes(station)):
                    now = today * DAY + minute
                    stand += [(number, now) for number in ready]
                    for number in leaving:
                        came, since = stand.pop(0 if rule == FIRST_OUT else -1)
                        if today == 2:
                            links[came] = (number, now - since)
        return links


class Links:
    """From each flight to the next, by which aircraft are flown on and on."""

    def __init__(self, plan, flown):
        self.plan = plan
        self.flights = {flight[0]: flight for flight in plan.flights}
        self.after = {number: then for number, (then, wait) in flown.items()}
        self.waits = {}

    def wait(self, number, then):
        """Counted minute by minute until the next one leaves."""
        if (number, then) not in self.waits:
            now = self.plan.ready(self.flights[number])
            self.waits[number, then] = 0
            while (now + self.waits[number, then]) % DAY != self.flights[then][3]:
                self.waits[number, then] += 1
        return self.waits[number, then]

    def days(self, number, then):
        return (self.plan.ready(self.flights[number]) + self.wait(number, then)) // DAY

    def rotation(self, number):
        flown = [number]
        while self.after[flown[-1]] != number:
            flown.append(self.after[flown[-1]])
        return flown

    def rotation_days(self, number):
        return sum(self.days(each, self.after[each]) for each in self.rotation(number))

    def heads(self):
        return sorted({min(self.rotation(number)) for number in self.after})

    def swap(self, f, g):
        """Whether they could be exchanged, and were."""
        if f == g or self.flights[f][2] != self.flights[g][2]:
            return False
        old = self.days(f, self.after[f]) + self.days(g, self.after[g])
        if self.days(f, self.after[g]) + self.days(g, self.after[f]) != old:
            return False
        self.after[f], self.after[g] = self.after[g], self.after[f]
        return True

    def merge(self):
        for f, g in itertools.combinations(sorted(self.after), 2):
            if g not in self.rotation(f) and self.swap(f, g):
                return self.merge()

    def journey(self, number, end):
        """Pairs of the minute, counted from day 0 on, and the flight with which the aircraft then leaves."""
        left = []
        now = self.flights[number][3]
        while now < end:
            left.append((now, number))
            then = self.after[number]
            now += self.flights[number][4] + self.plan.turns.get(self.flights[number][2], 0) + self.wait(number, then)
            number = then
        return left

    def grounds(self, number):
        """How long the aircraft stands behind the flight, with the turn."""
        return self.plan.turns.get(self.flights[number][2], 0) + self.wait(number, self.after[number])

    def stretches(self, number, need):
        """Pairs of a flight with a chance and the minutes flown up to and with it."""
        flown = self.rotation(number)
        have = [self.plan.hangars.get(self.flights[each][2]) == 1 and self.grounds(each) >= need for each in flown]
        pairs = []
        for place in range(len(flown)):
            if have[place]:
                minutes = self.flights[flown[place]][4]
                back = place - 1
                while not have[back] and back % len(flown) != place:
                    minutes += self.flights[flown[back]][4]
                    back = (back - 1) % len(flown)
                pairs.append((flown[place], minutes))
        return pairs


class Simulation(unittest.TestCase):
    def check(self, plan):
        calls = plan.calls() + [("balance",), ("fleet",)] + [("ground", name) for name in plan.stations]
        told = ask(*calls)[len(plan.calls()):]
        grounds = [plan.standing(name) for name in plan.stations]
        fleet = sum(plan.ready(flight) // DAY for flight in plan.flights) + sum(night for night, most in grounds)
        self.assertEqual(fleet, plan.fleet())
        self.assertEqual(told, [[0], [0, fleet]] + [[0, *ground] for ground in grounds])
        for rule in (FIRST_OUT, LAST_OUT):
            self.check_links(plan, rule, fleet)

    def check_links(self, plan, rule, fleet):
        links = plan.flown_next(rule)
        asked = nexts(*[flight[0] for flight in plan.flights])
        told = ask(*plan.calls(), ("build", rule), *asked)[len(plan.calls()):]
        self.assertEqual(told[0], [0, len(Links(plan, links).heads())])
        for flight, answer in zip(plan.flights, told[1:]):
            number, wait = links[flight[0]]
            self.assertEqual(answer, [0, number, wait, (plan.ready(flight) + wait) // DAY])
        # Each aircraft of the fleet is on just one link at any day's beginning.
        self.assertEqual(sum(answer[3] for answer in told[1:]), fleet)

    def test_many_plans(self):
        for seed in range(150):
            with self.subTest(seed=seed):
                self.check(Plan(seed))


class Flown(unittest.TestCase):
    """The calls on links, as build, swap or merge left them."""

    def told(self, plan, calls, asked):
        answered = []
        for begin in range(0, len(asked), 300):
            answered += ask_behind(plan.calls() + calls, *asked[begin:begin + 300])
        return answered

    def check_rotations(self, links, calls):
        asked = [("rotations",)] + [("rotation", number) for number in sorted(links.after)] + nexts(*links.after)
        rows = [0]
        for head in links.heads():
            rows += [head, len(links.rotation(head)), links.rotation_days(head)]
        expected = [rows]
        for number in sorted(links.after):
            expected.append([0, links.rotation_days(number), *links.rotation(number)])
        for number, then in links.after.items():
            expected.append([0, then, links.wait(number, then), links.days(number, then)])
        self.assertEqual(self.told(links.plan, calls, asked), expected)

    def check_service(self, links, calls):
        needs = {0, 1440} | {links.grounds(number) + more for number in links.after for more in (0, 1)}
        asked = []
        expected = []
        for need in sorted(need for need in needs if need <= 1440):
            rows = []
            stretches = {head: links.stretches(head, need) for head in links.heads()}
            longest = {head: max([minutes for last, minutes in stretches[head]], default=0) for head in stretches}
            for head in stretches:
                rows += [head, len(stretches[head]), longest[head]]
            enough = all(stretches.values())
            limit = max(1, max(longest.values()))
            for most, kept in ((limit, 1), (limit - 1, 0), (1000000, 1), (1, int(limit == 1))):
                if most:
                    asked.append(("service", need, most))
                    expected.append([0, kept if enough else 0, *rows])
        self.assertEqual(self.told(links.plan, calls, asked), expected)

    def check_journeys(self, links, calls, chance):
        number = chance.choice(sorted(links.after))
        period = links.rotation_days(number)
        size = len(links.rotation(number))
        blocks = sum(links.flights[each][4] for each in links.rotation(number))
        end = 2 * period + 2
        left = links.journey(number, (end + 2 * period) * DAY)
        asked = []
        expected = []
        for day in range(end + 1):
            flown = [each for minute, each in left if minute < day * DAY]
            minutes = sum(links.flights[each][4] for each in flown)
            # From day 1 on each rotation is as the one before; before f leaves on day 0 nothing is counted.
            for more in {0, FAR // period - end, (FAR - day) // period} if day else {0}:
                asked.append(("after", number, day + more * period))
                expected.append([0, len(flown) + more * size, minutes + more * blocks, left[len(flown)][1]])
        moments = {0, 1, end * DAY}
        for minute, each in left:
            landing = minute + links.flights[each][4]
            moments |= {minute - 1, minute, landing - 1, landing, chance.randrange(minute, landing)}
        moments = [moment for moment in moments if 0 <= moment < end * DAY]
        for moment in chance.sample(moments, min(len(moments), 120)):
            place = self.place(links, number, left, moment)
            asked.append(("at", number, *divmod(moment, DAY)))
            expected.append([0, *place])
            if moment >= links.flights[number][3]:
                asked.append(("at", number, moment // DAY + (FAR // period - end) * period, moment % DAY))
                expected.append([0, *place])
        self.assertEqual(self.told(links.plan, calls, asked), expected)

    def place(self, links, number, left, moment):
        before = [(minute, each) for minute, each in left if minute <= moment]
        if not before:
            return (0, links.flights[number][1])
        minute, each = before[-1]
        if moment < minute + links.flights[each][4]:
            return (1, each)
        return (0, links.flights[each][2])

    def check_all(self, links, calls, chance):
        self.check_rotations(links, calls)
        self.check_service(links, calls)
        self.check_journeys(links, calls, chance)

    def check(self, plan, chance):
        for rule in (FIRST_OUT, LAST_OUT):
            flown = plan.flown_next(rule)
            links = Links(plan, flown)
            calls = [("build", rule)]
            self.check_all(links, calls, chance)
            for pair in [chance.choices(sorted(links.after), k=2) for turn in range(40)]:
                taken = links.swap(*pair)
                answered = ask(*plan.calls(), *calls, ("swap", *pair))[-1]
                self.assertEqual(answered, [0, len(links.heads())] if taken else [-8])
                if taken:
                    calls.append(("swap", *pair))
            self.check_all(links, calls, chance)
            links.merge()
            calls.append(("merge",))
            self.assertEqual(ask(*plan.calls(), *calls)[-1], [0, len(links.heads())])
            self.check_all(links, calls, chance)
            # A second time, on what build tells by itself.
            links = Links(plan, flown)
            links.merge()
            self.check_rotations(links, [("build", rule), ("merge",)])

    def test_many_plans(self):
        for seed in range(40):
            with self.subTest(seed=seed):
                self.check(Plan(seed), random.Random(seed))


class Retimed(unittest.TestCase):
    def test_many_plans(self):
        for seed in range(1000, 1030):
            plan = Plan(seed)
            for width in (random.Random(seed).randint(1, 60), 60):
                with self.subTest(seed=seed, width=width):
                    self.assertEqual(ask_behind(plan.calls(), ("better", width)), [[0, *plan.better(width)]])


if __name__ == "__main__":
    unittest.main()
