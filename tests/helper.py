"""What all tests need: calls by their names, and answers cut apart by their counts."""

from sameflights.plan import answers

BIGGEST = 10 ** 15

RANGES = {
    "station": [(0, 17575), (0, 600), (0, 1)],
    "flight": [(1, 9999), (0, 17575), (0, 17575), (0, 1439), (1, 2880)],
    "cancel": [(1, 9999)],
    "retime": [(1, 9999), (0, 1439)],
    "balance": [],
    "fleet": [],
    "ground": [(0, 17575)],
    "build": [(0, 1)],
    "next_of": [(1, 9999)],
    "rotation": [(1, 9999)],
    "rotations": [],
    "swap": [(1, 9999), (1, 9999)],
    "merge": [],
    "service": [(0, 1440), (1, 1000000)],
    "after": [(1, 9999), (0, 10 ** 12)],
    "at": [(1, 9999), (0, 10 ** 12), (0, 1439)],
    "better": [(1, 60)],
}
PLACES = {name: place for place, name in enumerate(RANGES)}


def cut(answered):
    """The answers, each without the count before it."""
    apart = []
    begin = 0
    while begin < len(answered):
        end = begin + 1 + answered[begin]
        if answered[begin] < 1 or end > len(answered):
            raise AssertionError("wrong count at place %d of %r" % (begin, answered))
        apart.append(answered[begin + 1:end])
        begin = end
    return apart


def ask(*calls):
    """The answers to calls such as ("flight", 1, 10, 20, 480, 90), one for each."""
    numbers = []
    for name, *given in calls:
        if len(given) != len(RANGES[name]):
            raise AssertionError("not of its form: %r" % ((name, *given),))
        numbers.extend([PLACES[name], *given])
    apart = cut(answers(numbers))
    if len(apart) != len(calls):
        raise AssertionError("%d answers to %d calls" % (len(apart), len(calls)))
    return apart


def ask_behind(before, *calls):
    """The answers to the calls alone, asked behind others that must all be taken."""
    apart = ask(*before, *calls)
    for call, answer in zip(before, apart):
        if answer[0] != 0:
            raise AssertionError("%r answered %r" % (call, answer))
    return apart[len(before):]
