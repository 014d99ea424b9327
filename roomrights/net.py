"""The package's interface: a list of calls on one new object, and its answers."""

from roomrights.calls import ACCEPTED, NOTHING_OPEN, OUT_OF_RANGE, accepted_answer
from roomrights.hotel import Hotel
from roomrights.ranges import SHAPES, fits, fits_open
from roomrights.views import FIRST_VIEW, view

OPEN_PLACE = 0
OPEN_ROOMS_COUNT = 4
OPEN_ROOMS = 5


class Desk:
    """The object that the calls are on: at first nothing is open."""

    def __init__(self):
        self.hotel = None

    def answer(self, call):
        """The answer of one call: its place, then its numbers."""
        if call[0] == OPEN_PLACE:
            return self.answer_open(call[1:OPEN_ROOMS_COUNT], call[OPEN_ROOMS:])
        if self.hotel is None:
            return [NOTHING_OPEN]
        if not fits(self.hotel, call[0], call[1:]):
            return [OUT_OF_RANGE]
        if call[0] >= FIRST_VIEW:
            return [ACCEPTED] + view(self.hotel, call[0], call[1:])
        return accepted_answer(self.hotel, call[0], call[1:])

    def answer_open(self, numbers, rooms):
        """Everything is new, unless a number is out of its range."""
        if not fits_open(numbers, rooms):
            return [OUT_OF_RANGE]
        self.hotel = Hotel(rooms, numbers[1], numbers[2])
        return [ACCEPTED]


def call_length(calls, place):
    """How many numbers the call that begins at that place has, its own place among them."""
    if calls[place] == OPEN_PLACE:
        return OPEN_ROOMS + calls[place + OPEN_ROOMS_COUNT]
    return 1 + len(SHAPES[calls[place]])


def answers(calls):
    """For each call, in order, how many numbers are answered, then these."""
    desk = Desk()
    given = []
    place = 0
    while place < len(calls):
        behind = place + call_length(calls, place)
        answer = desk.answer(calls[place:behind])
        given.append(len(answer))
        given.extend(answer)
        place = behind
    return given
