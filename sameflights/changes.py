"""The calls that change stations and flights: station, flight, cancel, retime."""

from sameflights.refusals import DONE, NO_SUCH_FLIGHT, TABLE_FULL, THERE_ALREADY, VALUES_UNFIT
from sameflights.schedule import retimed

MOST_STATIONS = 24
MOST_FLIGHTS = 24


def tell_station(schedule, station, turn, hangar):
    if station not in schedule.turns and len(schedule.turns) == MOST_STATIONS:
        return [TABLE_FULL]
    schedule.turns[station] = turn
    schedule.hangars[station] = hangar
    schedule.links = {}
    return [DONE]


def add_flight(schedule, flight):
    if flight.number in schedule.flights:
        return [THERE_ALREADY]
    if len(schedule.flights) == MOST_FLIGHTS:
        return [TABLE_FULL]
    if flight.src == flight.dst:
        return [VALUES_UNFIT]
    schedule.flights[flight.number] = flight
    schedule.links = {}
    return [DONE]


def cancel_flight(schedule, number):
    if number not in schedule.flights:
        return [NO_SUCH_FLIGHT]
    schedule.flights.pop(number)
    schedule.links = {}
    return [DONE]


def retime_flight(schedule, number, dep):
    if number not in schedule.flights:
        return [NO_SUCH_FLIGHT]
    schedule.flights[number] = retimed(schedule.flights[number], dep)
    schedule.links = {}
    return [DONE]
