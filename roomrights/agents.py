"""An agent: what it knows besides, and what it does."""

from roomrights.known import Known
from roomrights.messages import ASK, BACK, GIVE, GONE, NO, RECALL, SOLD, UNASK
from roomrights.spans import span_at

HOUSE = 0

WAITING = 0
GIVEN = 1
REFUSED = 2
TAKEN_BACK = 3


class Agent(Known):
    """Its asks are numbered from 1 on: the first one's span and state stand first in their lists."""

    def __init__(self, stock):
        Known.__init__(self, stock, [HOUSE])
        self.ask_spans = []
        self.ask_states = []

    def copied(self):
        """Another agent's knowledge, the same as this one's."""
        other = Agent(self.stock)
        other.copy_common(self)
        other.ask_spans = list(self.ask_spans)
        other.ask_states = list(self.ask_states)
        return other

    def facts(self):
        """All that it knows as plain values."""
        return self.common_facts() + [[span.numbers() for span in self.ask_spans], self.ask_states]

    def asks_made(self):
        """How many asks it has made."""
        return len(self.ask_spans)

    def asks_waiting(self):
        """How many of its asks wait."""
        return self.ask_states.count(WAITING)

    def waits_for(self, ask):
        """Whether it has made the ask with that number and it waits."""
        return ask <= self.asks_made() and self.ask_states[ask - 1] == WAITING

    def ask(self, span):
        """Ask the house for the span; gives back the ask's number."""
        self.ask_spans.append(span)
        self.ask_states.append(WAITING)
        number = self.asks_made()
        self.send(HOUSE, (ASK, number) + span.numbers())
        return number

    def unask(self, ask):
        """Take back an ask that waits."""
        self.settle(ask, TAKEN_BACK)
        self.send(HOUSE, (UNASK, ask))

    def settle(self, ask, state):
        """The ask comes to that state, if it waits."""
        if self.waits_for(ask):
            self.ask_states[ask - 1] = state

    def give_back(self, span):
        """Rights that the stock has go back to the house unasked."""
        self.stock.take_span(span)
        self.send_back(0, span, [span.rooms] * (span.behind - span.first))

    def send_back(self, wait, span, amounts):
        """Tell the house how many rights come back for each night, for which wait (or 0)."""
        self.send(HOUSE, (BACK, wait, span.kind, span.first) + tuple(amounts))

    def sell(self, span):
        """Sell the span's one room, which the stock has, and tell the house."""
        booking = self.add_booking(span)
        self.send(HOUSE, (SOLD,) + booking.booking_numbers())
        return booking

    def drop(self, booking):
        """Drop the booking and tell the house."""
        self.remove_booking(booking)
        self.send(HOUSE, (GONE,) + booking.booking_numbers())

    def change(self, booking, span):
        """Drop the booking and sell the span's room, which can be sold then."""
        self.drop(booking)
        return self.sell(span)

    def hear(self, sender, row):
        """Do what a message tells; the sender matters to the house alone, an agent hears only from there."""
        if row[0] == GIVE:
            self.hear_give(row[1], span_at(row, 2))
        elif row[0] == NO:
            self.settle(row[1], REFUSED)
        elif row[0] == RECALL:
            self.hear_recall(row[1], span_at(row, 2))

    def hear_give(self, ask, span):
        """Rights come, for an ask or (0) for none."""
        self.stock.add_span(span)
        if ask > 0:
            self.settle(ask, GIVEN)

    def hear_recall(self, wait, span):
        """Send back what is unused of the span, nights with nothing too: the house counts the answers."""
        amounts = self.stock.take_what_is_there(span)
        self.send_back(wait, span, amounts)
