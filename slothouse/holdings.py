"""What a house holds, what can be read off it, and how a flight takes a slot."""

# One below the lowest carrier, so that an owner and 1 together is 0 for nobody alone.
NOBODY = -1
# Places begin at 1.
NO_PLACE = 0


class Slot:
    def __init__(self, time):
        self.time = time
        self.owner = NOBODY


class Flight:
    def __init__(self, number, carrier, planned, weight):
        self.number = number
        self.carrier = carrier
        self.planned = planned
        self.ready = planned
        self.weight = weight
        self.exempt = False
        self.cancelled = False
        self.place = NO_PLACE


class House:
    def __init__(self):
        # By rising times, so that a slot's place is told by where it stands.
        self.slots = []
        self.flights = {}
        self.given_out = False


def slot_at(house, place):
    return house.slots[place - 1]


def all_places(house):
    return list(range(1, len(house.slots) + 1))


def may_have(flight, slot):
    return slot.time >= flight.ready


def living_flights(house):
    return [flight for flight in house.flights.values() if not flight.cancelled]


def flights_of(house, carrier):
    return [flight for flight in living_flights(house) if flight.carrier == carrier]


# Which flight has a slot is kept with the flight alone, so that the two can't come to differ.
def holders(house):
    held = {}
    for flight in house.flights.values():
        if flight.place != NO_PLACE:
            held[flight.place] = flight.number
    return held


def open_places(house):
    held = holders(house)
    return [place for place in all_places(house) if place not in held]


def open_places_of(house, owners):
    return [place for place in open_places(house) if slot_at(house, place).owner in owners]


def first_place_from(house, time, places):
    for place in places:
        if slot_at(house, place).time >= time:
            return place
    return NO_PLACE


# A slot that a flight has is always its carrier's.
def take_place(house, flight, place):
    flight.place = place
    slot = slot_at(house, place)
    slot.owner = flight.carrier


def lateness(house, flight):
    if flight.place == NO_PLACE:
        return 0
    return slot_at(house, flight.place).time - flight.planned


def sum_and_greatest(late):
    return [sum(late), max(late, default=0)]


def told_lateness(house, flights):
    return sum_and_greatest([lateness(house, flight) for flight in flights])


def carrier_cost(house, carrier):
    return sum([flight.weight * lateness(house, flight) for flight in flights_of(house, carrier)])


def told_slot(house, flight):
    if flight.place == NO_PLACE:
        return [0, 0, 0]
    return [flight.place, slot_at(house, flight.place).time, lateness(house, flight)]
