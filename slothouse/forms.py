"""The calls by their numbers, and the range of each whole number that a call takes."""

SLOTS = 0
FLIGHT = 1
EXEMPT = 2
READY = 3
CANCEL = 4
RATION = 5
COMPRESS = 6
SWAP = 7
BEST = 8
TRADE = 9
RELEASE = 10
SLOT = 11
TABLE = 12
CARRIER = 13
TOTAL = 14
QUEUE = 15
RIVAL = 16
OPEN = 17

LAST_TIME = 52595999
MOST_SLOTS = 120
MOST_FLIGHTS = 60
MOST_IN_A_ROW = 60

ID_RANGE = (0, 999999)
CARRIER_RANGE = (0, 675)
WEIGHT_RANGE = (1, 1000)
GAP_RANGE = (1, 1440)
YES_RANGE = (0, 1)


def has_row(call):
    return call == QUEUE or call == RIVAL


def ranges_of(call):
    times = (0, LAST_TIME)
    if call == SLOTS:
        return [times, GAP_RANGE, (1, MOST_SLOTS)]
    if call == FLIGHT:
        return [ID_RANGE, CARRIER_RANGE, times, WEIGHT_RANGE]
    if call == EXEMPT:
        return [ID_RANGE, YES_RANGE]
    if call == READY:
        return [ID_RANGE, times]
    if call == CANCEL or call == SLOT:
        return [ID_RANGE]
    if call == SWAP:
        return [ID_RANGE, ID_RANGE]
    if call == TRADE:
        return [ID_RANGE, ID_RANGE, ID_RANGE, ID_RANGE]
    if call == BEST or call == CARRIER:
        return [CARRIER_RANGE]
    if call == RELEASE:
        return [(1, MOST_SLOTS)]
    if call in (RATION, COMPRESS, TABLE, TOTAL, OPEN):
        return []
    # How many numbers belong to such a call can't be told, so nothing behind it could be read.
    raise KeyError(call)


def row_range_of(call):
    return ID_RANGE if call == QUEUE else (1, MOST_SLOTS)


def all_in_range(numbers, ranges):
    for number, bounds in zip(numbers, ranges):
        if number < bounds[0] or number > bounds[1]:
            return False
    return True


def fits(call, numbers):
    if has_row(call):
        return len(numbers) <= MOST_IN_A_ROW and all_in_range(numbers, [row_range_of(call)] * len(numbers))
    return all_in_range(numbers, ranges_of(call))
