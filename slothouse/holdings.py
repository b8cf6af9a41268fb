"""What a house holds, and what can be read off it."""

# Below every carrier, so that no carrier is ever taken for nobody.
NOBODY = -1
# Places begin at 1.
NO_PLACE = 0


class Slot:
    def __init__(self, time):
        self.time = time
        self.owner = NOBODY


class Flight:
    def __init__(self, number, carrier, planned, weight):
        self.number = number
        self.carrier = carrier
        self.planned = planned
        self.ready = planned
        self.weight = weight
        self.exempt = False
        self.cancelled = False
        self.place = NO_PLACE


class House:
    def __init__(self):
        # By rising times, so that a slot's place is told by where it stands.
        self.slots = []
        self.flights = {}
        self.given_out = False


def slot_at(house, place):
    return house.slots[place - 1]


def all_places(house):
    return list(range(1, len(house.slots) + 1))


def may_have(flight, slot):
    return slot.time >= flight.ready


def living_flights(house):
    return [flight for flight in house.flights.values() if not flight.cancelled]


def flights_of(house, carrier):
    return [flight for flight in living_flights(house) if flight.carrier == carrier]


# Which flight has a slot is kept with the flight alone, so that the two can't come to differ.
def held_places(house):
    held = {}
    for flight in house.flights.values():
        held[flight.place] = True
    return held


def open_places(house, owners):
    held = held_places(house)
    unheld = [place for place in all_places(house) if place not in held]
    return [place for place in unheld if slot_at(house, place).owner in owners]


def first_place_from(house, time, places):
    for place in places:
        if slot_at(house, place).time >= time:
            return place
    return NO_PLACE


def lateness(house, flight):
    if flight.place == NO_PLACE:
        return 0
    return slot_at(house, flight.place).time - flight.planned


def carrier_cost(house, carrier):
    return sum([flight.weight * lateness(house, flight) for flight in flights_of(house, carrier)])


def told_slot(house, flight):
    if flight.place == NO_PLACE:
        return [0, 0, 0]
    return [flight.place, slot_at(house, flight.place).time, lateness(house, flight)]
