"""Which flight, a few minutes earlier or later, would save an aircraft."""

from sameflights.ground import fleet_size, overnight, ready_minutes, under_way
from sameflights.schedule import DAY, Schedule, retimed


def minutes_around(dep, width):
    return list(range(max(dep - width, 0), min(dep + width, DAY - 1) + 1))


# To leave a minute later saves an aircraft only if another gets ready just then at the station where the flight begins;
# to come later to the other station never saves one. So of the minutes of one flight that have the smallest fleet the
# earliest is the first of all, or one at which another gets ready.
def minutes_worth_a_look(schedule, flight, width):
    minutes = minutes_around(flight.dep, width)
    ready = ready_minutes(schedule, flight.src)
    return minutes[:1] + [minute for minute in minutes[1:] if minute in ready]


def with_flight(schedule, flight):
    changed = Schedule()
    changed.turns = schedule.turns
    changed.flights = dict(schedule.flights)
    changed.flights[flight.number] = flight
    return changed


# The part of the fleet that can depend on when the flight leaves.
def fleet_part(schedule, flight):
    standing = overnight(schedule, flight.src) + overnight(schedule, flight.dst)
    return under_way(schedule, flight) + standing


# Pairs of a minute that is worth a look and the fleet if the flight left then; fleet is that as it is.
def fleets_around(schedule, flight, width, fleet):
    others = fleet - fleet_part(schedule, flight)
    pairs = []
    for minute in minutes_worth_a_look(schedule, flight, width):
        moved = retimed(flight, minute)
        pairs.append((minute, others + fleet_part(with_flight(schedule, moved), moved)))
    return pairs


# The flight's number, the minute and the fleet then; empty if nothing is better than the fleet as it is.
def best_retiming(schedule, width):
    fleet = fleet_size(schedule)
    best = []
    smallest = fleet
    for number in sorted(schedule.flights):
        for minute, then in fleets_around(schedule, schedule.flights[number], width, fleet):
            if then < smallest:
                smallest = then
                best = [number, minute, then]
    return best
