"""The two rules by which the links of balanced flights are built: first out and last out."""

from sameflights.ground import overnight
from sameflights.schedule import flights_from, flights_to, flown_stations, ready_minute

FIRST_OUT = 0

# At one minute aircraft get ready before others leave, so READY is the smaller one in the order.
READY = 0
LEAVES = 1


# The station's day in order. A moment is its minute, READY or LEAVES, and the flight's number.
def moments(schedule, station):
    ready = [(ready_minute(schedule, flight), READY, flight.number) for flight in flights_to(schedule, station)]
    leaving = [(flight.dep, LEAVES, flight.number) for flight in flights_from(schedule, station)]
    return sorted(ready + leaving)


# Pairs of a flight that comes and the one that its aircraft flies next.
def first_out(schedule, station):
    order = moments(schedule, station)
    coming = [moment[2] for moment in order if moment[1] == READY]
    leaving = [moment[2] for moment in order if moment[1] == LEAVES]
    night = overnight(schedule, station)
    return [(number, leaving[(place + night) % len(leaving)]) for place, number in enumerate(coming)]


def last_ready(earlier):
    count = 0
    place = len(earlier) - 1
    while earlier[place][1] == LEAVES or count > 0:
        if earlier[place][1] == LEAVES:
            count += 1
        else:
            count -= 1
        place -= 1
    return earlier[place][2]


# Pairs of a flight that comes and the one that its aircraft flies next.
def last_out(schedule, station):
    order = moments(schedule, station)
    pairs = []
    for place, moment in enumerate(order):
        if moment[1] == LEAVES:
            # One day back is enough: without this flight, one more gets ready in it than leaves.
            pairs.append((last_ready(order[place + 1:] + order[:place]), moment[2]))
    return pairs


def built_links(schedule, rule):
    links = {}
    for station in flown_stations(schedule):
        pairs = first_out(schedule, station) if rule == FIRST_OUT else last_out(schedule, station)
        for pair in pairs:
            links[pair[0]] = pair[1]
    return links
