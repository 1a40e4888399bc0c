"""The calls on one plan, read from a list and answered one behind another."""

from sameflights.changes import add_flight, cancel_flight, retime_flight, tell_station
from sameflights.forms import BALANCE, BUILD, CANCEL, FLEET, FLIGHT, GROUND, NEXT_OF, RETIME, STATION
from sameflights.forms import argument_count, in_ranges
from sameflights.questions import build_links, tell_balance, tell_fleet, tell_ground, tell_next
from sameflights.refusals import NOT_OF_FORM, OUT_OF_RANGE
from sameflights.schedule import Flight, Schedule


def answer_call(schedule, place, given):
    if not in_ranges(place, given):
        return [OUT_OF_RANGE]
    if place == STATION:
        return tell_station(schedule, given[0], given[1], given[2])
    if place == FLIGHT:
        return add_flight(schedule, Flight(given[0], given[1], given[2], given[3], given[4]))
    if place == CANCEL:
        return cancel_flight(schedule, given[0])
    if place == RETIME:
        return retime_flight(schedule, given[0], given[1])
    if place == BALANCE:
        return tell_balance(schedule)
    if place == FLEET:
        return tell_fleet(schedule)
    if place == GROUND:
        return tell_ground(schedule, given[0])
    if place == BUILD:
        return build_links(schedule, given[0])
    if place == NEXT_OF:
        return tell_next(schedule, given[0])
    # A call that is not written yet is read all the same, so that the calls behind it are found.
    return [NOT_OF_FORM]


def answers(calls):
    schedule = Schedule()
    answered = []
    begin = 0
    while begin < len(calls):
        place = calls[begin]
        end = begin + 1 + argument_count(place)
        answer = answer_call(schedule, place, calls[begin + 1:end])
        answered.append(len(answer))
        answered.extend(answer)
        begin = end
    return answered
