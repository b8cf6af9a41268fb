"""The calls that give slots out and pass them on."""

from slothouse.holdings import NOBODY, NO_PLACE
from slothouse.holdings import all_places, first_place_from, held_places, slot_at
from slothouse.holdings import lateness, living_flights, may_have
from slothouse.refusals import NOT_GIVEN_OUT, NO_SLOT_FOR_IT


def ration_order(flight):
    return (0 if flight.exempt else 1, flight.planned, flight.number)


def give_out(house, taken):
    for slot in house.slots:
        slot.owner = NOBODY
    for number, place in taken.items():
        flight = house.flights[number]
        slot = slot_at(house, place)
        slot.owner = flight.carrier
        flight.place = NO_PLACE if flight.cancelled else place
    house.given_out = True


def ration(house):
    free = all_places(house)
    # Kept beside the house until every flight has found one, as a refusal must change nothing.
    taken = {}
    for flight in sorted(house.flights.values(), key=ration_order):
        place = first_place_from(house, flight.ready, free)
        if place == NO_PLACE:
            return [NO_SLOT_FOR_IT]
        free.remove(place)
        taken[flight.number] = place
    give_out(house, taken)
    late = [lateness(house, flight) for flight in living_flights(house)]
    return [0, sum(late), max(late, default=0)]


def place_of(flight):
    return flight.place


def comer(house, place):
    slot = slot_at(house, place)
    comers = [flight for flight in living_flights(house) if flight.place > place and may_have(flight, slot)]
    own = [flight for flight in comers if flight.carrier == slot.owner]
    return min(own if own else comers, key=place_of, default=None)


def pass_on(house, flight, place):
    slot = slot_at(house, place)
    left = slot_at(house, flight.place)
    left.owner = slot.owner
    slot.owner = flight.carrier
    flight.place = place


def compress(house):
    if not house.given_out:
        return [NOT_GIVEN_OUT]
    count = 0
    moves = []
    for place in all_places(house):
        flight = None if place in held_places(house) else comer(house, place)
        if flight is not None:
            count += 1
            moves.extend([flight.number, flight.place, place])
            pass_on(house, flight, place)
    return [0, count] + moves
