"""Which stations are balanced, what stands at them, and the fewest aircraft that fly all flights."""

from sameflights.schedule import DAY, flights_from, flights_to, flown_stations, ready_minute, ready_time

# At one minute aircraft get ready before others leave, so READY is the smaller one in the order.
READY = 0
LEAVES = 1


def coming_less_leaving(schedule, station):
    return len(flights_to(schedule, station)) - len(flights_from(schedule, station))


def unbalanced_stations(schedule):
    return [station for station in flown_stations(schedule) if coming_less_leaving(schedule, station) != 0]


def is_balanced(schedule):
    return len(unbalanced_stations(schedule)) == 0


# The station's day in order. A moment is its minute, READY or LEAVES, and the flight's number.
def moments(schedule, station):
    ready = [(ready_minute(schedule, flight), READY, flight.number) for flight in flights_to(schedule, station)]
    leaving = [(flight.dep, LEAVES, flight.number) for flight in flights_from(schedule, station)]
    return sorted(ready + leaving)


def leaving_minutes(schedule, station):
    return [flight.dep for flight in flights_from(schedule, station)]


def ready_minutes(schedule, station):
    return [ready_minute(schedule, flight) for flight in flights_to(schedule, station)]


def count_up_to(minutes, last):
    return len([minute for minute in minutes if minute <= last])


# The lack is gone through moment by moment, as it is greatest behind one of the flights that leave.
def overnight(schedule, station):
    lack = 0
    greatest = 0
    for moment in moments(schedule, station):
        if moment[1] == READY:
            lack -= 1
        else:
            lack += 1
            greatest = max(greatest, lack)
    return greatest


def most_standing(schedule, station):
    night = overnight(schedule, station)
    leaving = leaving_minutes(schedule, station)
    ready = ready_minutes(schedule, station)
    # Aircraft get ready before others leave, so what leaves at this very minute still stands there.
    standing = [night + count_up_to(ready, minute) - count_up_to(leaving, minute - 1) for minute in ready]
    return max([night] + standing)


# How many days' beginnings the flight is under way over.
def under_way(schedule, flight):
    return ready_time(schedule, flight) // DAY


# Meant of balanced flights only.
def fleet_size(schedule):
    flying = sum([under_way(schedule, flight) for flight in schedule.flights.values()])
    return flying + sum([overnight(schedule, station) for station in flown_stations(schedule)])
