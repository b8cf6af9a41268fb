"""The calls by their numbers, and the range of each whole number that a call takes."""

SLOTS = 0
FLIGHT = 1
EXEMPT = 2
READY = 3
CANCEL = 4
RATION = 5
COMPRESS = 6
SWAP = 7
BEST = 8

LAST_TIME = 52595999
MOST_SLOTS = 120
MOST_FLIGHTS = 60

IDS = (0, 999999)
CARRIERS = (0, 675)
WEIGHTS = (1, 1000)
GAPS = (1, 1440)
YES_OR_NO = (0, 1)


def ranges_of(call):
    times = (0, LAST_TIME)
    if call == SLOTS:
        return [times, GAPS, (1, MOST_SLOTS)]
    if call == FLIGHT:
        return [IDS, CARRIERS, times, WEIGHTS]
    if call == EXEMPT:
        return [IDS, YES_OR_NO]
    if call == READY:
        return [IDS, times]
    if call == CANCEL:
        return [IDS]
    if call == RATION or call == COMPRESS:
        return []
    if call == SWAP:
        return [IDS, IDS]
    if call == BEST:
        return [CARRIERS]
    # How many numbers belong to such a call can't be told, so nothing behind it could be read.
    raise KeyError(call)


def all_in_range(numbers, ranges):
    for number, bounds in zip(numbers, ranges):
        if number < bounds[0] or number > bounds[1]:
            return False
    return True
