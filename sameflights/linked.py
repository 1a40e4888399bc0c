"""The calls on links: build, next_of, rotation, rotations, swap, merge, service, after, at."""

from sameflights.exchange import exchange, may_exchange, merge_rotations
from sameflights.ground import is_balanced
from sameflights.refusals import DONE, NO_SUCH_FLIGHT, UNBALANCED_OR_UNLINKED, VALUES_UNFIT
from sameflights.rotations import all_rotations, heads, link_days, link_wait, rotation_days, rotation_from
from sameflights.rules import built_links
from sameflights.schedule import DAY
from sameflights.service import stretch_minutes
from sameflights.travel import last_left, times_before


# Why the flights and links that a call needs are not there; DONE if they are.
def lacking(schedule, numbers):
    for number in numbers:
        if number not in schedule.flights:
            return NO_SUCH_FLIGHT
    if len(schedule.links) == 0:
        return UNBALANCED_OR_UNLINKED
    return DONE


def tell_count(schedule):
    return [DONE, len(heads(schedule.links))]


def build_links(schedule, rule):
    if not is_balanced(schedule) or len(schedule.flights) == 0:
        return [UNBALANCED_OR_UNLINKED]
    schedule.links = built_links(schedule, rule)
    return tell_count(schedule)


def tell_next(schedule, number):
    refusal = lacking(schedule, [number])
    if refusal != DONE:
        return [refusal]
    return [DONE, schedule.links[number], link_wait(schedule, number), link_days(schedule, number)]


def tell_rotation(schedule, number):
    refusal = lacking(schedule, [number])
    if refusal != DONE:
        return [refusal]
    flown = rotation_from(schedule.links, number)
    return [DONE, rotation_days(schedule, flown)] + flown


def tell_rotations(schedule):
    refusal = lacking(schedule, [])
    if refusal != DONE:
        return [refusal]
    answer = [DONE]
    for flown in all_rotations(schedule.links):
        answer.extend([flown[0], len(flown), rotation_days(schedule, flown)])
    return answer


def swap_flights(schedule, one, other):
    refusal = lacking(schedule, [one, other])
    if refusal != DONE:
        return [refusal]
    if not may_exchange(schedule, one, other):
        return [VALUES_UNFIT]
    exchange(schedule, one, other)
    return tell_count(schedule)


def merge_all(schedule):
    refusal = lacking(schedule, [])
    if refusal != DONE:
        return [refusal]
    merge_rotations(schedule)
    return tell_count(schedule)


def tell_service(schedule, need, most):
    refusal = lacking(schedule, [])
    if refusal != DONE:
        return [refusal]
    enough = 1
    told = []
    for flown in all_rotations(schedule.links):
        stretches = stretch_minutes(schedule, flown, need)
        longest = max(stretches, default=0)
        if len(stretches) == 0 or longest > most:
            enough = 0
        told.extend([flown[0], len(stretches), longest])
    return [DONE, enough] + told


def tell_after(schedule, number, day):
    refusal = lacking(schedule, [number])
    if refusal != DONE:
        return [refusal]
    flown = rotation_from(schedule.links, number)
    times = times_before(schedule, flown, day)
    count = sum(times)
    minutes = sum([often * schedule.flights[each].block for often, each in zip(times, flown)])
    return [DONE, count, minutes, flown[count % len(flown)]]


def tell_at(schedule, number, day, minute):
    refusal = lacking(schedule, [number])
    if refusal != DONE:
        return [refusal]
    passed = day * DAY + minute - schedule.flights[number].dep
    if passed < 0:
        return [DONE, 0, schedule.flights[number].src]
    left = last_left(schedule, rotation_from(schedule.links, number), passed)
    flight = schedule.flights[left[0]]
    if left[1] < flight.block:
        return [DONE, 1, flight.number]
    return [DONE, 0, flight.dst]
