"""The two rules by which the links of balanced flights are built: first out and last out."""

from sameflights.ground import LEAVES, READY, moments, overnight
from sameflights.schedule import flown_stations

FIRST_OUT = 0


# Pairs of a flight that comes and the one that its aircraft flies next.
def first_out(schedule, station):
    order = moments(schedule, station)
    coming = [moment[2] for moment in order if moment[1] == READY]
    leaving = [moment[2] for moment in order if moment[1] == LEAVES]
    night = overnight(schedule, station)
    return [(number, leaving[(place + night) % len(leaving)]) for place, number in enumerate(coming)]


def last_ready(earlier):
    count = 0
    place = len(earlier) - 1
    while earlier[place][1] == LEAVES or count > 0:
        if earlier[place][1] == LEAVES:
            count += 1
        else:
            count -= 1
        place -= 1
    return earlier[place][2]


# Pairs of a flight that comes and the one that its aircraft flies next.
def last_out(schedule, station):
    order = moments(schedule, station)
    pairs = []
    for place, moment in enumerate(order):
        if moment[1] == LEAVES:
            # One day back is enough: without this flight, one more gets ready in it than leaves.
            pairs.append((last_ready(order[place + 1:] + order[:place]), moment[2]))
    return pairs


def built_links(schedule, rule):
    links = {}
    for station in flown_stations(schedule):
        pairs = first_out(schedule, station) if rule == FIRST_OUT else last_out(schedule, station)
        for pair in pairs:
            links[pair[0]] = pair[1]
    return links
