"""Which stations are balanced, what stands at them, and the fewest aircraft that fly all flights."""

from sameflights.schedule import DAY, flights_from, flights_to, flown_stations, ready_minute, ready_time


def coming_less_leaving(schedule, station):
    return len(flights_to(schedule, station)) - len(flights_from(schedule, station))


def unbalanced_stations(schedule):
    return [station for station in flown_stations(schedule) if coming_less_leaving(schedule, station) != 0]


def is_balanced(schedule):
    return len(unbalanced_stations(schedule)) == 0


def leaving_minutes(schedule, station):
    return [flight.dep for flight in flights_from(schedule, station)]


def ready_minutes(schedule, station):
    return [ready_minute(schedule, flight) for flight in flights_to(schedule, station)]


def count_up_to(minutes, last):
    return len([minute for minute in minutes if minute <= last])


def lack(leaving, ready, minute):
    return max(count_up_to(leaving, minute) - count_up_to(ready, minute), 0)


def overnight(schedule, station):
    leaving = leaving_minutes(schedule, station)
    ready = ready_minutes(schedule, station)
    return max([lack(leaving, ready, minute) for minute in leaving], default=0)


def most_standing(schedule, station):
    night = overnight(schedule, station)
    leaving = leaving_minutes(schedule, station)
    ready = ready_minutes(schedule, station)
    # Aircraft get ready before others leave, so what leaves at this very minute still stands there.
    standing = [night + count_up_to(ready, minute) - count_up_to(leaving, minute - 1) for minute in ready]
    return max([night] + standing)


# Meant of balanced flights only.
def fleet_size(schedule):
    under_way = sum([ready_time(schedule, flight) // DAY for flight in schedule.flights.values()])
    return under_way + sum([overnight(schedule, station) for station in flown_stations(schedule)])
