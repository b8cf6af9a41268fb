"""The calls that give slots out and pass them on."""

from slothouse.holdings import NOBODY, NO_PLACE
from slothouse.holdings import all_places, first_place_from, holders, living_flights, may_have
from slothouse.holdings import slot_at, take_place, told_lateness
from slothouse.refusals import NOT_GIVEN_OUT, NO_SLOT_FOR_IT


# The places are told and not taken yet, as a refusal must change nothing; None if a flight finds none.
def places_in_turn(house, flights):
    free = all_places(house)
    places = []
    for flight in flights:
        place = first_place_from(house, flight.ready, free)
        if place == NO_PLACE:
            return None
        free.remove(place)
        places.append(place)
    return places


def ration_order(flight):
    return (0 if flight.exempt else 1, flight.planned, flight.number)


def give_out(house, flights, places):
    for slot in house.slots:
        slot.owner = NOBODY
    for flight, place in zip(flights, places):
        take_place(house, flight, place)
        if flight.cancelled:
            # Its carrier owns the slot all the same.
            flight.place = NO_PLACE
    house.given_out = True


def ration(house):
    flights = sorted(house.flights.values(), key=ration_order)
    places = places_in_turn(house, flights)
    if places is None:
        return [NO_SLOT_FOR_IT]
    give_out(house, flights, places)
    return [0] + told_lateness(house, living_flights(house))


def place_of(flight):
    return flight.place


def comer(house, place):
    slot = slot_at(house, place)
    comers = [flight for flight in living_flights(house) if flight.place > place and may_have(flight, slot)]
    own = [flight for flight in comers if flight.carrier == slot.owner]
    return min(own if own else comers, key=place_of, default=None)


def pass_on(house, flight, place):
    slot = slot_at(house, place)
    left = slot_at(house, flight.place)
    left.owner = slot.owner
    take_place(house, flight, place)


def compress(house):
    if not house.given_out:
        return [NOT_GIVEN_OUT]
    count = 0
    moves = []
    for place in all_places(house):
        flight = None if place in holders(house) else comer(house, place)
        if flight is not None:
            count += 1
            moves.extend([flight.number, flight.place, place])
            pass_on(house, flight, place)
    return [0, count] + moves
