"""The calls that bring slots and flights, and change one flight."""

from slothouse.forms import LAST_TIME, MOST_FLIGHTS, MOST_SLOTS
from slothouse.holdings import NOBODY, NO_PLACE, Flight, Slot
from slothouse.holdings import first_place_from, open_places_of, slot_at, take_place, told_slot
from slothouse.refusals import CANCELLED_OR_WITHOUT_SLOT, FULL, NOT_THERE, NO_SLOT_FOR_IT
from slothouse.refusals import THERE_ALREADY, WRONG_TIME


def add_slots(house, first_time, gap, how_many):
    if house.slots and slot_at(house, len(house.slots)).time >= first_time:
        return [WRONG_TIME]
    if first_time + gap * (how_many - 1) > LAST_TIME:
        return [WRONG_TIME]
    if len(house.slots) + how_many > MOST_SLOTS:
        return [FULL]
    for step in range(how_many):
        house.slots.append(Slot(first_time + gap * step))
    return [0, len(house.slots)]


def add_flight(house, number, carrier, planned, weight):
    if number in house.flights:
        return [THERE_ALREADY]
    if len(house.flights) >= MOST_FLIGHTS:
        return [FULL]
    flight = Flight(number, carrier, planned, weight)
    if house.given_out:
        place = first_place_from(house, flight.ready, open_places_of(house, [NOBODY]))
        if place == NO_PLACE:
            return [NO_SLOT_FOR_IT]
        take_place(house, flight, place)
    house.flights[number] = flight
    return [0] + told_slot(house, flight)


def set_exempt(house, number, yes):
    if number not in house.flights:
        return [NOT_THERE]
    flight = house.flights[number]
    flight.exempt = (yes == 1)
    return [0]


def set_ready(house, number, time):
    if number not in house.flights:
        return [NOT_THERE]
    flight = house.flights[number]
    if flight.cancelled:
        return [CANCELLED_OR_WITHOUT_SLOT]
    if time < flight.planned:
        return [WRONG_TIME]
    if flight.place != NO_PLACE and slot_at(house, flight.place).time < time:
        place = first_place_from(house, time, open_places_of(house, [NOBODY, flight.carrier]))
        if place == NO_PLACE:
            return [NO_SLOT_FOR_IT]
        take_place(house, flight, place)
    flight.ready = time
    return [0] + told_slot(house, flight)


def cancel_flight(house, number):
    if number not in house.flights:
        return [NOT_THERE]
    flight = house.flights[number]
    if flight.cancelled:
        return [CANCELLED_OR_WITHOUT_SLOT]
    had = told_slot(house, flight)
    flight.cancelled = True
    flight.place = NO_PLACE
    return [0] + had
