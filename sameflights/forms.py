"""The calls' places, and the ranges of the arguments that each call has."""

STATION = 0
FLIGHT = 1
CANCEL = 2
RETIME = 3
BALANCE = 4
FLEET = 5
GROUND = 6
BUILD = 7
NEXT_OF = 8
ROTATION = 9
ROTATIONS = 10
SWAP = 11
MERGE = 12
SERVICE = 13
AFTER = 14
AT = 15
BETTER = 16

# A row for each place; its length says where the next call begins.
RANGES = (
    ((0, 17575), (0, 600), (0, 1)),
    ((1, 9999), (0, 17575), (0, 17575), (0, 1439), (1, 2880)),
    ((1, 9999),),
    ((1, 9999), (0, 1439)),
    (),
    (),
    ((0, 17575),),
    ((0, 1),),
    ((1, 9999),),
    ((1, 9999),),
    (),
    ((1, 9999), (1, 9999)),
    (),
    ((0, 1440), (1, 1000000)),
    ((1, 9999), (0, 1000000000000)),
    ((1, 9999), (0, 1000000000000), (0, 1439)),
    ((1, 60),),
)


def argument_count(place):
    return len(RANGES[place])


def in_ranges(place, given):
    for value, ends in zip(given, RANGES[place]):
        if value < ends[0] or value > ends[1]:
            return False
    return True
