"""The calls balance, fleet, ground and better, for which links do not matter."""

from sameflights.better import best_retiming
from sameflights.ground import coming_less_leaving, fleet_size, is_balanced
from sameflights.ground import most_standing, overnight, unbalanced_stations
from sameflights.refusals import DONE, UNBALANCED_OR_UNLINKED


def tell_balance(schedule):
    answer = [DONE]
    for station in unbalanced_stations(schedule):
        answer.append(station)
        answer.append(coming_less_leaving(schedule, station))
    return answer


def tell_fleet(schedule):
    if not is_balanced(schedule):
        return [UNBALANCED_OR_UNLINKED]
    return [DONE, fleet_size(schedule)]


def tell_ground(schedule, station):
    if not is_balanced(schedule):
        return [UNBALANCED_OR_UNLINKED]
    return [DONE, overnight(schedule, station), most_standing(schedule, station)]


def tell_better(schedule, width):
    if not is_balanced(schedule):
        return [UNBALANCED_OR_UNLINKED]
    return [DONE] + best_retiming(schedule, width)
