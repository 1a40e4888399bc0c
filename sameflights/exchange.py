"""Exchanges of what two flights' aircraft fly next, and the merging of rotations by them."""

from sameflights.rotations import all_rotations, days_between


def is_free(schedule, one, other):
    behind_one = schedule.links[one]
    behind_other = schedule.links[other]
    old = days_between(schedule, one, behind_one) + days_between(schedule, other, behind_other)
    new = days_between(schedule, one, behind_other) + days_between(schedule, other, behind_one)
    return new == old


def may_exchange(schedule, one, other):
    if one == other or schedule.flights[one].dst != schedule.flights[other].dst:
        return False
    return is_free(schedule, one, other)


def exchange(schedule, one, other):
    behind_one = schedule.links[one]
    schedule.links[one] = schedule.links[other]
    schedule.links[other] = behind_one


def head_by_flight(links):
    told = {}
    for flown in all_rotations(links):
        for number in flown:
            told[number] = flown[0]
    return told


# The two flights, the smaller first; empty if no two rotations can be merged.
def first_pair(schedule):
    head_of = head_by_flight(schedule.links)
    numbers = sorted(schedule.links)
    for place, one in enumerate(numbers):
        for other in numbers[place + 1:]:
            if head_of[one] != head_of[other] and may_exchange(schedule, one, other):
                return [one, other]
    return []


# Each exchange makes one rotation of two, so this comes to an end.
def merge_rotations(schedule):
    pair = first_pair(schedule)
    while len(pair) > 0:
        exchange(schedule, pair[0], pair[1])
        pair = first_pair(schedule)
