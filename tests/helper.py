"""What the tests share: lines of calls that grow, and questions put to a copy of a line.

The questions are calls that are handed in behind the line's own and then
forgotten, so that they change nothing for the calls that come after.
"""

from roomrights.net import answers

FAR = 1000000000000000000

GIVE = 1
BACK = 2
ASK = 3
UNASK = 4
SELL = 5
CANCEL = 6
CHANGE = 7
SHUT = 8
REOPEN = 9
SYNC = 10
CUT = 11
AGAIN = 12
DELIVER = 13


def split_answers(numbers):
    """The list of each call's answer."""
    split = []
    place = 0
    while place < len(numbers):
        behind = place + 1 + numbers[place]
        split.append(numbers[place + 1:behind])
        place = behind
    if place != len(numbers):
        raise ValueError("the counts don't fit the answers")
    return split


def opening(kinds, nights, agents, rooms):
    """The call open."""
    return [0, kinds, nights, agents, len(rooms)] + list(rooms)


class Line:
    """A line of calls; each call answers what the last one of the line answers."""

    def __init__(self, *first):
        self.calls = []
        self.amount = 0
        if first:
            self.open(*first)

    def asked(self, extra):
        """The answers of calls handed in behind the line."""
        flat = list(self.calls)
        for call in extra:
            flat.extend(call)
        return split_answers(answers(flat))[self.amount:]

    def call(self, *numbers):
        answer = self.asked([numbers])[0]
        self.calls.extend(numbers)
        self.amount += 1
        return answer

    def open(self, kinds, nights, agents, rooms):
        return self.call(*opening(kinds, nights, agents, rooms))

    def give(self, *numbers):
        return self.call(GIVE, *numbers)

    def back(self, *numbers):
        return self.call(BACK, *numbers)

    def ask(self, *numbers):
        return self.call(ASK, *numbers)

    def unask(self, *numbers):
        return self.call(UNASK, *numbers)

    def sell(self, *numbers):
        return self.call(SELL, *numbers)

    def cancel(self, *numbers):
        return self.call(CANCEL, *numbers)

    def change(self, *numbers):
        return self.call(CHANGE, *numbers)

    def shut(self, *numbers):
        return self.call(SHUT, *numbers)

    def reopen(self, *numbers):
        return self.call(REOPEN, *numbers)

    def sync(self, *numbers):
        return self.call(SYNC, *numbers)

    def cut(self, *numbers):
        return self.call(CUT, *numbers)

    def again(self, *numbers):
        return self.call(AGAIN, *numbers)

    def deliver(self, *numbers):
        return self.call(DELIVER, *numbers)

    def deliver_all(self):
        """All that is under way comes, in order."""
        for turn in range(self.under_way()):
            self.deliver(1)

    def pass_on(self, node):
        """The node writes, and all that is under way comes."""
        self.sync(node)
        self.deliver_all()

    def settle(self, agents, rounds):
        """Rounds: each node writes, each sends again, all comes."""
        for turn in range(rounds):
            for node in range(agents + 1):
                self.sync(node)
            for node in range(agents + 1):
                self.again(node)
            self.deliver_all()

    def under_way(self):
        """How many messages are under way: the greatest place that can be delivered."""
        extra = [(DELIVER, place) for place in range(80, 0, -1)]
        for place, answer in zip(range(80, 0, -1), self.asked(extra)):
            if answer == [0]:
                return place
        return 0

    def stock(self, node, kind, night):
        """The stock: the greatest number of rights that the node can part with."""
        call = (GIVE, 1) if node == 0 else (BACK, node)
        extra = [call + (kind, night, night + 1, amount) for amount in range(30, 0, -1)]
        for amount, answer in zip(range(30, 0, -1), self.asked(extra)):
            if answer == [0]:
                return amount
        return 0

    def stocks(self, node, kind, nights):
        """The stock of a kind, night by night."""
        return [self.stock(node, kind, night) for night in range(nights)]

    def bookings(self, node):
        """The numbers of the node's bookings (up to 60)."""
        extra = [(CANCEL, node, number) for number in range(1, 61)]
        return [number for number, answer in enumerate(self.asked(extra), start=1) if answer == [0]]

    def shut_spans(self):
        """The numbers of the spans shut (up to 60)."""
        extra = [(REOPEN, number) for number in range(1, 61)]
        return [number for number, answer in enumerate(self.asked(extra), start=1) if answer == [0]]

    def waiting(self, agent):
        """The numbers of the agent's asks that wait, as it knows."""
        extra = [(UNASK, agent, number) for number in range(1, 41)]
        return [number for number, answer in enumerate(self.asked(extra), start=1) if answer == [0]]

    def unsure(self, node):
        """How many messages the node would send again, with nothing else under way."""
        extra = [(DELIVER, 1)] * self.under_way() + [(CUT, node), (AGAIN, node)]
        return self.asked(extra)[-1][1]
