"""The calls by which slots go from one carrier to another, or to nobody."""

from slothouse.changing import change_places, may_change, two_of_one_carrier
from slothouse.holdings import NOBODY, NO_PLACE
from slothouse.holdings import carrier_cost, holders, slot_at
from slothouse.refusals import CANCELLED_OR_WITHOUT_SLOT, DO_NOT_FIT, MAY_NOT_HAVE, NOT_OPEN, NOT_THERE
from slothouse.refusals import SOMEBODY_LOSES


def saved(house, flight, other):
    return flight.weight * (slot_at(house, flight.place).time - slot_at(house, other.place).time)


def somebody_loses(house, flights):
    first = saved(house, flights[0], flights[2]) + saved(house, flights[1], flights[3])
    second = saved(house, flights[2], flights[0]) + saved(house, flights[3], flights[1])
    return first < 0 or second < 0 or (first == 0 and second == 0)


def trade_refusal(house, flights):
    # A cancelled flight has no slot either.
    if any([flight.place == NO_PLACE for flight in flights]):
        return CANCELLED_OR_WITHOUT_SLOT
    if not two_of_one_carrier(flights[0], flights[1]) or not two_of_one_carrier(flights[2], flights[3]):
        return DO_NOT_FIT
    if flights[0].carrier == flights[2].carrier:
        return DO_NOT_FIT
    if not may_change(house, flights[0], flights[2]) or not may_change(house, flights[1], flights[3]):
        return MAY_NOT_HAVE
    if somebody_loses(house, flights):
        return SOMEBODY_LOSES
    return 0


def trade(house, numbers):
    if any([number not in house.flights for number in numbers]):
        return [NOT_THERE]
    flights = [house.flights[number] for number in numbers]
    refusal = trade_refusal(house, flights)
    if refusal != 0:
        return [refusal]
    carriers = [flights[0].carrier, flights[2].carrier]
    before = [carrier_cost(house, carrier) for carrier in carriers]
    change_places(house, flights[0], flights[2])
    change_places(house, flights[1], flights[3])
    after = [carrier_cost(house, carrier) for carrier in carriers]
    return [0, before[0], after[0], before[1], after[1]]


def release(house, place):
    if place > len(house.slots) or slot_at(house, place).owner == NOBODY:
        return [NOT_THERE]
    if place in holders(house):
        return [NOT_OPEN]
    slot = slot_at(house, place)
    slot.owner = NOBODY
    return [0]
