"""One list of calls on a new house, and what they answer."""

from slothouse.changing import best, swap
from slothouse.forms import BEST, CANCEL, COMPRESS, EXEMPT, FLIGHT, RATION, READY, SLOTS, SWAP
from slothouse.forms import all_in_range, ranges_of
from slothouse.giving import compress, ration
from slothouse.holdings import House
from slothouse.planning import add_flight, add_slots, cancel_flight, set_exempt, set_ready
from slothouse.refusals import OUT_OF_RANGE


def answer_call(house, call, numbers):
    if call == SLOTS:
        return add_slots(house, numbers[0], numbers[1], numbers[2])
    if call == FLIGHT:
        return add_flight(house, numbers[0], numbers[1], numbers[2], numbers[3])
    if call == EXEMPT:
        return set_exempt(house, numbers[0], numbers[1])
    if call == READY:
        return set_ready(house, numbers[0], numbers[1])
    if call == CANCEL:
        return cancel_flight(house, numbers[0])
    if call == RATION:
        return ration(house)
    if call == COMPRESS:
        return compress(house)
    if call == SWAP:
        return swap(house, numbers[0], numbers[1])
    if call == BEST:
        return best(house, numbers[0])
    raise KeyError(call)


def answers(calls):
    house = House()
    told = []
    at = 0
    while at < len(calls):
        call = calls[at]
        ranges = ranges_of(call)
        behind = at + 1 + len(ranges)
        numbers = calls[at + 1:behind]
        answer = answer_call(house, call, numbers) if all_in_range(numbers, ranges) else [OUT_OF_RANGE]
        told.append(len(answer))
        told.extend(answer)
        at = behind
    return told
