"""Which numbers each call has, and between which bounds each of them lies."""

from roomrights.messages import MOST_UNDER_WAY

MOST_KINDS = 4
MOST_NIGHTS = 21
MOST_AGENTS = 5
MOST_ROOMS = 30
MOST_ASKS = 40
MOST_NUMBER = 1000000
MOST_ROUNDS = 60

# One row a call, by its place; the row of rooms behind the numbers of open is apart.
SHAPES = (
    ("kinds", "nights", "agents"),
    ("agent", "kind", "night", "behind", "rooms"),
    ("agent", "kind", "night", "behind", "rooms"),
    ("agent", "kind", "night", "behind", "rooms"),
    ("agent", "ask"),
    ("node", "kind", "night", "behind"),
    ("node", "number"),
    ("node", "number", "kind", "night", "behind"),
    ("kind", "night", "behind", "rooms"),
    ("number",),
    ("node",),
    ("node",),
    ("node",),
    ("message",),
    ("message",),
    ("message",),
    ("rounds",),
    ("kind", "night"),
    ("node",),
    ("agent",),
    (),
    ("agent",),
    (),
    ("node",),
    (),
    ("kind",),
    ("node",),
)


def fits_open(numbers, rooms):
    """Whether the numbers of open and its row of rooms are in their ranges."""
    mosts = (MOST_KINDS, MOST_NIGHTS, MOST_AGENTS)
    for number, most in zip(numbers, mosts):
        if number < 1 or number > most:
            return False
    if len(rooms) != numbers[0]:
        return False
    return all([0 <= amount <= MOST_ROOMS for amount in rooms])


def fits(hotel, place, numbers):
    """Whether each number of a call other than open is in its range."""
    before = 0
    for name, number in zip(SHAPES[place], numbers):
        bounds = bounds_of(hotel, name, before)
        if number < bounds[0] or number > bounds[1]:
            return False
        before = number
    return True


def bounds_of(hotel, name, before):
    """The least and the greatest of such a number; the night behind a span depends on the number before it."""
    bounds = {
        "agent": (1, hotel.agents),
        "node": (0, hotel.agents),
        "kind": (1, hotel.kinds),
        "night": (0, hotel.nights - 1),
        "behind": (before + 1, hotel.nights),
        "rooms": (1, MOST_ROOMS),
        "ask": (1, MOST_ASKS),
        "number": (1, MOST_NUMBER),
        "message": (1, MOST_UNDER_WAY),
        "rounds": (1, MOST_ROUNDS),
    }
    return bounds[name]
