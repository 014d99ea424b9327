"""The house: what it knows besides, and what it does."""

from roomrights.known import Known
from roomrights.messages import ASK, BACK, BACK_AMOUNTS, GIVE, GONE, NO, RECALL, SOLD, UNASK
from roomrights.spans import Entry, entries_without, facts_of, room_at, span_at

MOST_WAITS = 12


class Wait:
    """An agent's ask that waits at the house."""

    def __init__(self, number, agent, ask, span):
        self.number = number
        self.agent = agent
        self.ask_number = ask
        self.span = span
        self.asked_around = False
        self.unanswered = []

    def copied(self):
        """Another wait, the same as this one."""
        other = Wait(self.number, self.agent, self.ask_number, self.span)
        other.asked_around = self.asked_around
        other.unanswered = list(self.unanswered)
        return other

    def facts(self):
        """The wait as plain values."""
        asked = (self.number, self.agent, self.ask_number) + self.span.numbers()
        return asked + (self.asked_around, self.unanswered)

    def hear_answer(self, agent):
        """That agent has answered."""
        self.unanswered = [other for other in self.unanswered if other != agent]


class House(Known):
    """The agents are its links; it keeps their asks that wait, their bookings, and rooms shut."""

    def __init__(self, stock, agents):
        Known.__init__(self, stock, agents)
        self.waits = []
        self.next_wait = 1
        self.shut_spans = []
        told = {}
        for agent in agents:
            told[agent] = []
        self.told = told

    def copied(self):
        """Another house's knowledge, the same as this one's."""
        other = House(self.stock, list(self.links))
        other.copy_common(self)
        other.waits = [wait.copied() for wait in self.waits]
        other.next_wait = self.next_wait
        other.shut_spans = list(self.shut_spans)
        told = {}
        for agent in self.told:
            told[agent] = list(self.told[agent])
        other.told = told
        return other

    def facts(self):
        """All that it knows as plain values."""
        waits = [wait.facts() for wait in self.waits]
        told = [facts_of(self.told[agent]) for agent in self.told]
        return self.common_facts() + [waits, self.next_wait, facts_of(self.shut_spans), told]

    def asks_waiting(self):
        """How many asks wait here."""
        return len(self.waits)

    def give(self, agent, ask, span):
        """Rights that the stock has go to the agent, for its ask or (0) for none."""
        self.stock.take_span(span)
        self.send(agent, (GIVE, ask) + span.numbers())

    def sell(self, span):
        """Sell the span's one room, which the stock has."""
        return self.add_booking(span)

    def drop(self, booking):
        """Drop the booking: its room may be what an ask waits for."""
        self.remove_booking(booking)
        self.look_at_waits()

    def change(self, booking, span):
        """Drop the booking and sell the span's room before any wait can get it."""
        self.remove_booking(booking)
        changed = self.add_booking(span)
        self.look_at_waits()
        return changed

    def shut(self, span):
        """Shut rooms that the stock has."""
        entry = self.numbered(span)
        self.shut_spans.append(entry)
        return entry

    def reopen(self, entry):
        """Rooms that were shut are to be had again."""
        self.shut_spans = entries_without(self.shut_spans, entry.number)
        self.stock.add_span(entry.span)
        self.look_at_waits()

    def hear(self, sender, row):
        """Do what an agent's message tells."""
        if row[0] == BACK:
            self.hear_back(sender, row)
        elif row[0] == ASK:
            self.hear_ask(sender, row[1], span_at(row, 2))
        elif row[0] == UNASK:
            self.hear_unask(sender, row[1])
        elif row[0] == SOLD:
            self.told[sender].append(Entry(row[1], room_at(row, 2)))
        elif row[0] == GONE:
            self.told[sender] = entries_without(self.told[sender], row[1])

    def hear_back(self, agent, row):
        """Rights come back: the wait's number, the kind, the first night, then how many for each night."""
        self.stock.add_row(row[2], row[3], row[BACK_AMOUNTS:])
        for wait in self.waits:
            if wait.number == row[1]:
                wait.hear_answer(agent)
        self.look_at_waits()

    def hear_ask(self, agent, ask, span):
        """An ask comes to wait, or is refused when too many wait."""
        if len(self.waits) >= MOST_WAITS:
            self.send(agent, (NO, ask))
            return
        self.waits.append(Wait(self.next_wait, agent, ask, span))
        self.next_wait += 1
        self.look_at_waits()

    def hear_unask(self, agent, ask):
        """The agent's ask waits no more; another one may have stood behind it."""
        self.waits = [wait for wait in self.waits if wait.agent != agent or wait.ask_number != ask]
        self.look_at_waits()

    def look_at_waits(self):
        """Go through the waits in order; each sees only those before it that wait still."""
        staying = []
        for wait in self.waits:
            if self.stays(wait, staying):
                staying.append(wait)
        self.waits = staying

    def stays(self, wait, earlier):
        """Look at one wait and do what can be done for it; whether it waits still."""
        if any([other.span.overlaps(wait.span) for other in earlier]):
            return True
        if self.stock.has(wait.span):
            self.give(wait.agent, wait.ask_number, wait.span)
            return False
        if not wait.asked_around and len(self.links) > 1:
            self.ask_around(wait)
            return True
        if len(wait.unanswered) == 0:
            self.send(wait.agent, (NO, wait.ask_number))
            return False
        return True

    def ask_around(self, wait):
        """Recall the wait's span from every other agent."""
        others = [agent for agent in self.links if agent != wait.agent]
        for agent in others:
            self.send(agent, (RECALL, wait.number) + wait.span.numbers())
        wait.asked_around = True
        wait.unanswered = others
