"""The calls that tell how the house stands."""

from slothouse.holdings import all_places, carrier_cost, flights_of, holders, living_flights, open_places
from slothouse.holdings import slot_at, told_lateness, told_slot
from slothouse.refusals import NOT_THERE


def tell_slot(house, number):
    if number not in house.flights:
        return [NOT_THERE]
    flight = house.flights[number]
    return [0, 1 if flight.cancelled else 0] + told_slot(house, flight)


def tell_table(house):
    held = holders(house)
    told = [0, len(house.slots)]
    for place in all_places(house):
        slot = slot_at(house, place)
        holder = held[place] + 1 if place in held else 0
        told.extend([slot.time, slot.owner + 1, holder])
    return told


def tell_carrier(house, carrier):
    flights = flights_of(house, carrier)
    owned = [slot for slot in house.slots if slot.owner == carrier]
    return [0, len(flights)] + told_lateness(house, flights) + [carrier_cost(house, carrier), len(owned)]


def tell_total(house):
    flights = living_flights(house)
    return [0, len(flights)] + told_lateness(house, flights)


def tell_open(house):
    places = open_places(house)
    return [0, len(places)] + places
