"""One list of calls on a new house, and what they answer."""

from slothouse.changing import best, swap
from slothouse.forms import BEST, CANCEL, CARRIER, COMPRESS, EXEMPT, FLIGHT, QUEUE, RATION, READY, RELEASE, RIVAL
from slothouse.forms import SLOT, SLOTS, SWAP, TABLE, TOTAL, TRADE
from slothouse.forms import fits, has_row, ranges_of
from slothouse.giving import compress, ration
from slothouse.holdings import House
from slothouse.planning import add_flight, add_slots, cancel_flight, set_exempt, set_ready
from slothouse.refusals import OUT_OF_RANGE
from slothouse.telling import tell_carrier, tell_open, tell_slot, tell_table, tell_total
from slothouse.trading import release, trade
from slothouse.trying import queue, rival


def answer_question(house, call, numbers):
    if call == SLOT:
        return tell_slot(house, numbers[0])
    if call == TABLE:
        return tell_table(house)
    if call == CARRIER:
        return tell_carrier(house, numbers[0])
    if call == TOTAL:
        return tell_total(house)
    if call == QUEUE:
        return queue(house, numbers)
    if call == RIVAL:
        return rival(house, numbers)
    # OPEN is the one that is left: what is no call at all is found out when its numbers are read.
    return tell_open(house)


def answer_call(house, call, numbers):
    if call == SLOTS:
        return add_slots(house, numbers[0], numbers[1], numbers[2])
    if call == FLIGHT:
        return add_flight(house, numbers[0], numbers[1], numbers[2], numbers[3])
    if call == EXEMPT:
        return set_exempt(house, numbers[0], numbers[1])
    if call == READY:
        return set_ready(house, numbers[0], numbers[1])
    if call == CANCEL:
        return cancel_flight(house, numbers[0])
    if call == RATION:
        return ration(house)
    if call == COMPRESS:
        return compress(house)
    if call == SWAP:
        return swap(house, numbers[0], numbers[1])
    if call == BEST:
        return best(house, numbers[0])
    if call == TRADE:
        return trade(house, numbers)
    if call == RELEASE:
        return release(house, numbers[0])
    return answer_question(house, call, numbers)


def answers(calls):
    house = House()
    told = []
    at = 0
    while at < len(calls):
        call = calls[at]
        # A row tells its own count, ahead of its numbers.
        count = calls[at + 1] if has_row(call) else len(ranges_of(call))
        begin = at + 2 if has_row(call) else at + 1
        numbers = calls[begin:begin + count]
        answer = answer_call(house, call, numbers) if fits(call, numbers) else [OUT_OF_RANGE]
        told.append(len(answer))
        told.extend(answer)
        at = begin + count
    return told
