"""The calls that tell what would be, and change nothing."""

from slothouse.giving import places_in_turn
from slothouse.holdings import living_flights, may_have, slot_at, sum_and_greatest
from slothouse.refusals import NOT_ALL, NO_SLOT_FOR_IT


def living_numbers(house):
    return sorted([flight.number for flight in living_flights(house)])


def queue(house, numbers):
    if sorted(numbers) != living_numbers(house):
        return [NOT_ALL]
    places = places_in_turn(house, [house.flights[number] for number in numbers])
    if places is None:
        return [NO_SLOT_FOR_IT]
    return [0, len(places)] + places


def is_right(house, flights, places):
    if len(set(places)) != len(places):
        return False
    return all([may_have(flight, slot_at(house, place)) for flight, place in zip(flights, places)])


def rival(house, places):
    flights = [house.flights[number] for number in living_numbers(house)]
    if len(places) != len(flights) or max(places, default=0) > len(house.slots):
        return [NOT_ALL]
    if not is_right(house, flights, places):
        return [0, 0, 0, 0]
    late = [slot_at(house, place).time - flight.planned for flight, place in zip(flights, places)]
    return [0, 1] + sum_and_greatest(late)
