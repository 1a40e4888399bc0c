"""The calls on one plan, read from a list and answered one behind another."""

from sameflights.changes import add_flight, cancel_flight, retime_flight, tell_station
from sameflights.forms import AFTER, BALANCE, BETTER, BUILD, CANCEL, FLEET, FLIGHT, GROUND, MERGE, NEXT_OF
from sameflights.forms import RETIME, ROTATION, ROTATIONS, SERVICE, STATION, SWAP
from sameflights.forms import argument_count, in_ranges
from sameflights.linked import build_links, merge_all, swap_flights, tell_after, tell_at, tell_next
from sameflights.linked import tell_rotation, tell_rotations, tell_service
from sameflights.questions import tell_balance, tell_better, tell_fleet, tell_ground
from sameflights.refusals import OUT_OF_RANGE
from sameflights.schedule import Flight, Schedule


def answer_change(schedule, place, given):
    if place == STATION:
        return tell_station(schedule, given[0], given[1], given[2])
    if place == FLIGHT:
        return add_flight(schedule, Flight(given[0], given[1], given[2], given[3], given[4]))
    if place == CANCEL:
        return cancel_flight(schedule, given[0])
    return retime_flight(schedule, given[0], given[1])


def answer_question(schedule, place, given):
    if place == BALANCE:
        return tell_balance(schedule)
    if place == FLEET:
        return tell_fleet(schedule)
    if place == GROUND:
        return tell_ground(schedule, given[0])
    return tell_better(schedule, given[0])


def answer_linked(schedule, place, given):
    if place == BUILD:
        return build_links(schedule, given[0])
    if place == NEXT_OF:
        return tell_next(schedule, given[0])
    if place == ROTATION:
        return tell_rotation(schedule, given[0])
    if place == ROTATIONS:
        return tell_rotations(schedule)
    if place == SWAP:
        return swap_flights(schedule, given[0], given[1])
    if place == MERGE:
        return merge_all(schedule)
    if place == SERVICE:
        return tell_service(schedule, given[0], given[1])
    if place == AFTER:
        return tell_after(schedule, given[0], given[1])
    return tell_at(schedule, given[0], given[1], given[2])


def answer_call(schedule, place, given):
    if not in_ranges(place, given):
        return [OUT_OF_RANGE]
    if place in (STATION, FLIGHT, CANCEL, RETIME):
        return answer_change(schedule, place, given)
    if place in (BALANCE, FLEET, GROUND, BETTER):
        return answer_question(schedule, place, given)
    return answer_linked(schedule, place, given)


def answers(calls):
    schedule = Schedule()
    answered = []
    begin = 0
    while begin < len(calls):
        place = calls[begin]
        end = begin + 1 + argument_count(place)
        answer = answer_call(schedule, place, calls[begin + 1:end])
        answered.append(len(answer))
        answered.extend(answer)
        begin = end
    return answered
