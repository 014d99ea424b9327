"""Spans of rooms and nights, and the entries of a node's books that hold one."""


class Span:
    """So many rooms of a kind for each of the nights first to behind - 1; never altered once made."""

    def __init__(self, kind, first, behind, rooms):
        self.kind = kind
        self.first = first
        self.behind = behind
        self.rooms = rooms

    def numbers(self):
        """The span as calls and messages tell it."""
        return (self.kind, self.first, self.behind, self.rooms)

    def overlaps(self, other):
        """Whether both are of one kind and have a night in common."""
        return self.kind == other.kind and self.first < other.behind and other.first < self.behind

    def holds(self, kind, night):
        """Whether it is of that kind and the night is one of its own."""
        return self.kind == kind and self.first <= night < self.behind


class Entry:
    """A booking or a span of rooms shut, under its number; never altered once made."""

    def __init__(self, number, span):
        self.number = number
        self.span = span

    def booking_numbers(self):
        """The entry as messages tell a booking: one room goes without saying."""
        return (self.number, self.span.kind, self.span.first, self.span.behind)

    def facts(self):
        """The entry as plain values."""
        return (self.number,) + self.span.numbers()


def span_at(numbers, place):
    """The span whose four numbers stand from that place on."""
    return Span(numbers[place], numbers[place + 1], numbers[place + 2], numbers[place + 3])


def room_at(numbers, place):
    """The span of one room whose kind and two nights stand from that place on."""
    return Span(numbers[place], numbers[place + 1], numbers[place + 2], 1)


def entry_with(entries, number):
    """The entry with that number, or None."""
    for entry in entries:
        if entry.number == number:
            return entry
    return None


def entries_without(entries, number):
    """The entries but the one with that number, in their order."""
    return [entry for entry in entries if entry.number != number]


def facts_of(entries):
    """The entries as plain values, in their order."""
    return [entry.facts() for entry in entries]


def rooms_held(entries, kind, night):
    """How many rooms of the kind the entries hold on that night."""
    return sum([entry.span.rooms for entry in entries if entry.span.holds(kind, night)])
