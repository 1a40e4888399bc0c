"""What links tell: waits, days, and the rotations that they make."""

from sameflights.schedule import DAY, ready_time


def wait_between(schedule, number, following):
    return (schedule.flights[following].dep - ready_time(schedule, schedule.flights[number])) % DAY


def days_between(schedule, number, following):
    ready = ready_time(schedule, schedule.flights[number])
    return (ready + wait_between(schedule, number, following)) // DAY


def link_wait(schedule, number):
    return wait_between(schedule, number, schedule.links[number])


def link_days(schedule, number):
    return days_between(schedule, number, schedule.links[number])


def rotation_from(links, number):
    flown = [number]
    following = links[number]
    while following != number:
        flown.append(following)
        following = links[following]
    return flown


def rotation_days(schedule, flown):
    return sum([link_days(schedule, number) for number in flown])


def heads(links):
    return [number for number in sorted(links) if number == min(rotation_from(links, number))]


# Each from its head on, by rising heads.
def all_rotations(links):
    return [rotation_from(links, head) for head in heads(links)]
