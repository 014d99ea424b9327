"""Messages and the row of those that are under way.

What a message tells is a tuple: one of the places below, then its numbers.
"""

GIVE = 1
NO = 2
RECALL = 3
BACK = 4
ASK = 5
UNASK = 6
SOLD = 7
GONE = 8

# Where how many for each night begin in the row of a back.
BACK_AMOUNTS = 4

MOST_UNDER_WAY = 80


class Parcel:
    """A message, or the word that all has come up to a number: this one's row is empty."""

    def __init__(self, sender, receiver, number, row):
        self.sender = sender
        self.receiver = receiver
        self.number = number
        self.row = row

    def is_word(self):
        """Whether it only tells what has come."""
        return len(self.row) == 0


class UnderWay:
    """The parcels under way, in order."""

    def __init__(self):
        self.parcels = []

    def put(self, parcel):
        """The parcel goes behind the others, or is lost where there is no room."""
        if not self.is_full():
            self.parcels.append(parcel)

    def amount(self):
        """How many are under way."""
        return len(self.parcels)

    def is_full(self):
        """Whether what is put behind the others now is lost."""
        return len(self.parcels) >= MOST_UNDER_WAY

    def take(self, place):
        """The parcel at that place, from 1 on, which is under way no more."""
        return self.parcels.pop(place - 1)

    def take_all(self):
        """All parcels, in order; none is under way any more."""
        parcels = self.parcels
        self.parcels = []
        return parcels

    def double(self, place):
        """The parcel at that place, from 1 on, goes behind the others once more."""
        self.put(self.parcels[place - 1])


def rights_in(row, kind, night):
    """How many rights to that night the message carries: a give and a back alone carry any."""
    if row[0] == GIVE and row[2] == kind and row[3] <= night < row[4]:
        return row[5]
    if row[0] == BACK and row[2] == kind and 0 <= night - row[3] < len(row) - BACK_AMOUNTS:
        return row[BACK_AMOUNTS + night - row[3]]
    return 0
