"""Where the aircraft that flies a flight on day 0 is on a later day, and what it has flown by then."""

from sameflights.rotations import link_days, rotation_days
from sameflights.schedule import DAY


# The days on which the aircraft first flies each flight of its rotation, the first of them on day 0.
def first_days(schedule, flown):
    days = [0]
    for number in flown[:-1]:
        days.append(days[-1] + link_days(schedule, number))
    return days


# How often the aircraft leaves with each flight of its rotation before the day.
def times_before(schedule, flown, day):
    period = rotation_days(schedule, flown)
    # The last flight's first day may be that of the first one's second time, so each flight is counted by itself.
    return [max(day - first + period - 1, 0) // period for first in first_days(schedule, flown)]


# The minutes from when the first flight of the rotation leaves to when each of them does.
def leaving_times(schedule, flown):
    begin = schedule.flights[flown[0]].dep
    days = first_days(schedule, flown)
    return [day * DAY + schedule.flights[number].dep - begin for number, day in zip(flown, days)]


# The flight with which the aircraft left last, and the minutes since; passed are those since it left with the first.
def last_left(schedule, flown, passed):
    into = passed % (rotation_days(schedule, flown) * DAY)
    times = leaving_times(schedule, flown)
    place = len([since for since in times if since <= into]) - 1
    return [flown[place], into - times[place]]
