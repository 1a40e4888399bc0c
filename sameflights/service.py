"""Where a rotation has a chance of service, and how long is flown from one chance to the next."""

from sameflights.rotations import link_wait


def has_chance(schedule, number, need):
    station = schedule.flights[number].dst
    if schedule.hangars.get(station, 0) == 0:
        return False
    return schedule.turns[station] + link_wait(schedule, number) >= need


# The minutes of flying of each stretch of a rotation; there are as many stretches as chances.
def stretch_minutes(schedule, flown, need):
    stretches = []
    flying = 0
    for number in flown:
        flying += schedule.flights[number].block
        if has_chance(schedule, number, need):
            stretches.append(flying)
            flying = 0
    if len(stretches) > 0:
        # What is flown behind the last chance goes on, around the rotation, up to the first one.
        stretches[0] += flying
    return stretches
