"""What has been told of stations and flights, and the links between flights."""

DAY = 1440


class Flight:
    def __init__(self, number, src, dst, dep, block):
        self.number = number
        self.src = src
        self.dst = dst
        self.dep = dep
        self.block = block


class Schedule:
    def __init__(self):
        self.turns = {}
        self.hangars = {}
        self.flights = {}
        # From a flight's number to that of the next. Links need a flight, so empty can stand for none at all.
        self.links = {}


def retimed(flight, dep):
    return Flight(flight.number, flight.src, flight.dst, dep, flight.block)


# Counted on from the beginning of the day on which the flight leaves, so it may be more than a day.
def ready_time(schedule, flight):
    return flight.dep + flight.block + schedule.turns.get(flight.dst, 0)


def ready_minute(schedule, flight):
    return ready_time(schedule, flight) % DAY


def flights_from(schedule, station):
    return [flight for flight in schedule.flights.values() if flight.src == station]


def flights_to(schedule, station):
    return [flight for flight in schedule.flights.values() if flight.dst == station]


def flown_stations(schedule):
    sources = [flight.src for flight in schedule.flights.values()]
    targets = [flight.dst for flight in schedule.flights.values()]
    return sorted(set(sources + targets))
