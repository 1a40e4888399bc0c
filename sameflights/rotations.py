"""What links tell: waits, days, and the rotations that they make."""

from sameflights.schedule import DAY, ready_time


def link_wait(schedule, number):
    following = schedule.flights[schedule.links[number]]
    return (following.dep - ready_time(schedule, schedule.flights[number])) % DAY


def link_days(schedule, number):
    return (ready_time(schedule, schedule.flights[number]) + link_wait(schedule, number)) // DAY


def rotation_from(links, number):
    flown = [number]
    following = links[number]
    while following != number:
        flown.append(following)
        following = links[following]
    return flown


def heads(links):
    return [number for number in sorted(links) if number == min(rotation_from(links, number))]
