"""The calls balance, fleet, ground, build and next_of."""

from sameflights.ground import coming_less_leaving, fleet_size, is_balanced
from sameflights.ground import most_standing, overnight, unbalanced_stations
from sameflights.refusals import DONE, NO_SUCH_FLIGHT, UNBALANCED_OR_UNLINKED
from sameflights.rotations import heads, link_days, link_wait
from sameflights.rules import built_links


def tell_balance(schedule):
    answer = [DONE]
    for station in unbalanced_stations(schedule):
        answer.append(station)
        answer.append(coming_less_leaving(schedule, station))
    return answer


def tell_fleet(schedule):
    if not is_balanced(schedule):
        return [UNBALANCED_OR_UNLINKED]
    return [DONE, fleet_size(schedule)]


def tell_ground(schedule, station):
    if not is_balanced(schedule):
        return [UNBALANCED_OR_UNLINKED]
    return [DONE, overnight(schedule, station), most_standing(schedule, station)]


def build_links(schedule, rule):
    if not is_balanced(schedule) or len(schedule.flights) == 0:
        return [UNBALANCED_OR_UNLINKED]
    schedule.links = built_links(schedule, rule)
    return [DONE, len(heads(schedule.links))]


def tell_next(schedule, number):
    if number not in schedule.flights:
        return [NO_SUCH_FLIGHT]
    if len(schedule.links) == 0:
        return [UNBALANCED_OR_UNLINKED]
    return [DONE, schedule.links[number], link_wait(schedule, number), link_days(schedule, number)]
