"""Messages and the row of those that are under way.

What a message tells is a tuple: one of the places below, then its numbers.
"""

GIVE = 1
NO = 2
RECALL = 3
BACK = 4
ASK = 5
UNASK = 6
SOLD = 7
GONE = 8

MOST_UNDER_WAY = 80


class Parcel:
    """A message, or the word that all has come up to a number: this one's row is empty."""

    def __init__(self, sender, receiver, number, row):
        self.sender = sender
        self.receiver = receiver
        self.number = number
        self.row = row

    def is_word(self):
        """Whether it only tells what has come."""
        return len(self.row) == 0


class UnderWay:
    """The parcels under way, in order."""

    def __init__(self):
        self.parcels = []

    def put(self, parcel):
        """The parcel goes behind the others, or is lost where there is no room."""
        if len(self.parcels) < MOST_UNDER_WAY:
            self.parcels.append(parcel)

    def amount(self):
        """How many are under way."""
        return len(self.parcels)

    def take(self, place):
        """The parcel at that place, from 1 on, which is under way no more."""
        return self.parcels.pop(place - 1)
