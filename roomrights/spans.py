"""Spans of rooms and nights, and the entries of a node's books that hold one."""


class Span:
    """So many rooms of a kind for each of the nights first to behind - 1; never altered once made."""

    def __init__(self, kind, first, behind, rooms):
        self.kind = kind
        self.first = first
        self.behind = behind
        self.rooms = rooms

    def numbers(self):
        """The span as calls and messages tell it."""
        return (self.kind, self.first, self.behind, self.rooms)

    def overlaps(self, other):
        """Whether both are of one kind and have a night in common."""
        return self.kind == other.kind and self.first < other.behind and other.first < self.behind


class Entry:
    """A booking or a span of rooms shut, under its number; never altered once made."""

    def __init__(self, number, span):
        self.number = number
        self.span = span

    def booking_numbers(self):
        """The entry as messages tell a booking: one room goes without saying."""
        return (self.number, self.span.kind, self.span.first, self.span.behind)


def span_at(numbers, place):
    """The span whose four numbers stand from that place on."""
    return Span(numbers[place], numbers[place + 1], numbers[place + 2], numbers[place + 3])


def room_at(numbers, place):
    """The span of one room whose kind and two nights stand from that place on."""
    return Span(numbers[place], numbers[place + 1], numbers[place + 2], 1)


def entry_with(entries, number):
    """The entry with that number, or None."""
    for entry in entries:
        if entry.number == number:
            return entry
    return None


def entries_without(entries, number):
    """The entries but the one with that number, in their order."""
    return [entry for entry in entries if entry.number != number]
