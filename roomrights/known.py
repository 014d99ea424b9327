"""What the house and the agents alike know."""

from roomrights.links import Link
from roomrights.spans import Entry, entries_without, facts_of


class Known:
    """A stock, bookings with the next number for one, and a link to each of some nodes."""

    def __init__(self, stock, peers):
        self.stock = stock
        self.bookings = []
        self.next_number = 1
        links = {}
        for peer in peers:
            links[peer] = Link()
        self.links = links

    def copy_common(self, other):
        """Take over what the other knows, so that neither reaches the other's lists."""
        self.stock = other.stock.copied()
        self.bookings = list(other.bookings)
        self.next_number = other.next_number
        links = {}
        for peer in other.links:
            links[peer] = other.links[peer].copied()
        self.links = links

    def common_facts(self):
        """What every node knows as plain values, so that two can be held against one another."""
        links = [self.links[peer].facts() for peer in self.links]
        return [self.stock.rows, facts_of(self.bookings), self.next_number, links]

    def unsure_amount(self):
        """How many messages sent it doesn't know to have come."""
        return sum([len(self.links[peer].unsure) for peer in self.links])

    def send(self, peer, row):
        """Send what the row tells to that node."""
        self.links[peer].send(row)

    def numbered(self, span):
        """An entry for the span under the next number; its rooms leave the stock."""
        entry = Entry(self.next_number, span)
        self.next_number += 1
        self.stock.take_span(span)
        return entry

    def add_booking(self, span):
        """A new booking of the span's one room, which the stock has."""
        booking = self.numbered(span)
        self.bookings.append(booking)
        return booking

    def remove_booking(self, booking):
        """The booking is gone and its room is back in the stock."""
        self.bookings = entries_without(self.bookings, booking.number)
        self.stock.add_span(booking.span)

    def can_change(self, booking, span):
        """Whether the span's room could be sold once the booking were gone."""
        stock = self.stock.copied()
        stock.add_span(booking.span)
        return stock.has(span)
