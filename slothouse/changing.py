"""The calls by which a carrier puts its own flights in another order."""

from slothouse.holdings import NO_PLACE
from slothouse.holdings import all_places, carrier_cost, flights_of, may_have, slot_at, take_place
from slothouse.refusals import CANCELLED_OR_WITHOUT_SLOT, DO_NOT_FIT, MAY_NOT_HAVE, NOT_GIVEN_OUT, NOT_THERE


def may_change(house, first, second):
    return may_have(first, slot_at(house, second.place)) and may_have(second, slot_at(house, first.place))


def change_places(house, first, second):
    place = first.place
    take_place(house, first, second.place)
    take_place(house, second, place)


def two_of_one_carrier(first, second):
    return first.carrier == second.carrier and first.number != second.number


def swap(house, one, other):
    if one not in house.flights or other not in house.flights:
        return [NOT_THERE]
    first = house.flights[one]
    second = house.flights[other]
    # A cancelled flight has no slot either.
    if first.place == NO_PLACE or second.place == NO_PLACE:
        return [CANCELLED_OR_WITHOUT_SLOT]
    if not two_of_one_carrier(first, second):
        return [DO_NOT_FIT]
    if not may_change(house, first, second):
        return [MAY_NOT_HAVE]
    before = carrier_cost(house, first.carrier)
    change_places(house, first, second)
    return [0, before, carrier_cost(house, first.carrier)]


def best_order(flight):
    return (-flight.weight, flight.number)


def first_that_may(flights, slot):
    for flight in flights:
        if may_have(flight, slot):
            return flight
    return None


def best(house, carrier):
    if not house.given_out:
        return [NOT_GIVEN_OUT]
    before = carrier_cost(house, carrier)
    waiting = sorted(flights_of(house, carrier), key=best_order)
    for place in all_places(house):
        slot = slot_at(house, place)
        flight = first_that_may(waiting, slot) if slot.owner == carrier else None
        if flight is not None:
            # Every flight that waits gets a place here, so none keeps the one it had.
            flight.place = place
            waiting.remove(flight)
    return [0, before, carrier_cost(house, carrier)]
