"""What all tests need: calls by their names, and answers cut apart by their counts."""

from sameflights.plan import answers

BIGGEST = 10 ** 15

RANGES = {
    "station": [(0, 17575), (0, 600), (0, 1)],
    "flight": [(1, 9999), (0, 17575), (0, 17575), (0, 1439), (1, 2880)],
    "cancel": [(1, 9999)],
    "retime": [(1, 9999), (0, 1439)],
    "balance": [],
    "fleet": [],
    "ground": [(0, 17575)],
    "build": [(0, 1)],
    "next_of": [(1, 9999)],
    "rotation": [(1, 9999)],
    "rotations": [],
    "swap": [(1, 9999), (1, 9999)],
    "merge": [],
    "service": [(0, 1440), (1, 1000000)],
    "after": [(1, 9999), (0, 10 ** 12)],
    "at": [(1, 9999), (0, 10 ** 12), (0, 1439)],
    "better": [(1, 60)],
}
PLACES = {name: place for place, name in enumerate(RANGES)}

FIRST_OUT = 0
LAST_OUT = 1

# At 20 flight 1 is ready at 400 and 2 at 410, 11 and 12 leave at 700 and 800. At 10 flight 12 is ready at 900 and
# 11 at 1000, and they stand there overnight: 1 and 2 leave at 300 and 310.
# First out the rotation is 1, 11, 2, 12, last out 1, 12, 2, 11; it takes two days.
FOUR = [("flight", 12, 20, 10, 800, 100), ("flight", 2, 10, 20, 310, 100),
        ("flight", 11, 20, 10, 700, 300), ("flight", 1, 10, 20, 300, 100)]

# Two flights at other stations, which make a rotation of one day by themselves.
APART = [("flight", 8, 40, 30, 100, 10), ("flight", 7, 30, 40, 0, 10)]

# What tells of the whole plan, to see that a call changed nothing.
ALL_TOLD = [("balance",), ("fleet",), ("ground", 10), ("ground", 20), ("rotations",), ("rotation", 1),
            ("rotation", 2), ("next_of", 1), ("next_of", 2), ("service", 0, 1000000), ("after", 1, 77),
            ("at", 1, 77, 777), ("better", 60)]


def cut(answered):
    """The answers, each without the count before it."""
    apart = []
    begin = 0
    while begin < len(answered):
        end = begin + 1 + answered[begin]
        if answered[begin] < 1 or end > len(answered):
            raise AssertionError("wrong count at place %d of %r" % (begin, answered))
        apart.append(answered[begin + 1:end])
        begin = end
    return apart


def ask(*calls):
    """The answers to calls such as ("flight", 1, 10, 20, 480, 90), one for each."""
    numbers = []
    for name, *given in calls:
        if len(given) != len(RANGES[name]):
            raise AssertionError("not of its form: %r" % ((name, *given),))
        numbers.extend([PLACES[name], *given])
    apart = cut(answers(numbers))
    if len(apart) != len(calls):
        raise AssertionError("%d answers to %d calls" % (len(apart), len(calls)))
    return apart


def nexts(*numbers):
    return [("next_of", number) for number in numbers]


def following(answered):
    """What is told first, behind the 0, in each answer."""
    return [answer[1] for answer in answered]


def ask_behind(before, *calls):
    """The answers to the calls alone, asked behind others that must all be taken."""
    apart = ask(*before, *calls)
    for call, answer in zip(before, apart):
        if answer[0] != 0:
            raise AssertionError("%r answered %r" % (call, answer))
    return apart[len(before):]
