"""What the tests share: lines of calls that grow, questions put to a copy of a line, and lines that are drawn.

The questions are calls that are handed in behind the line's own and then
forgotten, so that they change nothing for the calls that come after.
"""

import random

from roomrights.net import answers

FAR = 1000000000000000000

GIVE = 1
BACK = 2
ASK = 3
UNASK = 4
SELL = 5
CANCEL = 6
CHANGE = 7
SHUT = 8
REOPEN = 9
SYNC = 10
CUT = 11
AGAIN = 12
DELIVER = 13
LOSE = 14
DOUBLE = 15
CALM = 16
CELL = 17
BOOK = 18
ASKS = 19
WAITS = 20
SEEN = 21
FLYING = 22
OWED = 23
QUIET = 24
ROOMING = 25
KEPT = 26


def split_answers(numbers):
    """The list of each call's answer."""
    split = []
    place = 0
    while place < len(numbers):
        behind = place + 1 + numbers[place]
        split.append(numbers[place + 1:behind])
        place = behind
    if place != len(numbers):
        raise ValueError("the counts don't fit the answers")
    return split


def opening(kinds, nights, agents, rooms):
    """The call open."""
    return [0, kinds, nights, agents, len(rooms)] + list(rooms)


def all_looks(kinds, nights, agents):
    """Every call that only looks, with all numbers that it can have in a hotel of that size."""
    looks = [(WAITS,), (FLYING,), (QUIET,)]
    for kind in range(1, kinds + 1):
        looks.append((ROOMING, kind))
        looks.extend((CELL, kind, night) for night in range(nights))
    for node in range(agents + 1):
        looks.extend(((BOOK, node), (KEPT, node), (OWED, node)))
    for agent in range(1, agents + 1):
        looks.extend(((ASKS, agent), (SEEN, agent)))
    return looks


def in_groups(answer, width):
    """What an accepted answer tells, so many numbers at a time."""
    if answer[0] != 0 or (len(answer) - 1) % width != 0:
        raise ValueError(f"no groups of {width}: {answer}")
    return [tuple(answer[place:place + width]) for place in range(1, len(answer), width)]


def parcels_in(answer):
    """What flying answers: for each message from, to, its number, and its row."""
    parcels = []
    place = 2
    while place < len(answer):
        behind = place + 4 + answer[place + 3]
        parcels.append((answer[place], answer[place + 1], answer[place + 2], tuple(answer[place + 4:behind])))
        place = behind
    if answer[0] != 0 or answer[1] != len(parcels) or place != len(answer):
        raise ValueError(f"not what flying answers: {answer}")
    return parcels


class Line:
    """A line of calls; each call answers what the last one of the line answers."""

    def __init__(self, *first):
        self.calls = []
        self.amount = 0
        self.size = None
        if first:
            self.open(*first)

    def copied(self):
        """Another line with the same calls."""
        other = Line()
        other.calls = list(self.calls)
        other.amount = self.amount
        other.size = self.size
        return other

    def asked(self, extra):
        """The answers of calls handed in behind the line."""
        flat = list(self.calls)
        for call in extra:
            flat.extend(call)
        return split_answers(answers(flat))[self.amount:]

    def call(self, *numbers):
        answer = self.asked([numbers])[0]
        self.calls.extend(numbers)
        self.amount += 1
        return answer

    def open(self, kinds, nights, agents, rooms):
        answer = self.call(*opening(kinds, nights, agents, rooms))
        if answer == [0]:
            self.size = (kinds, nights, agents)
        return answer

    def give(self, *numbers):
        return self.call(GIVE, *numbers)

    def back(self, *numbers):
        return self.call(BACK, *numbers)

    def ask(self, *numbers):
        return self.call(ASK, *numbers)

    def unask(self, *numbers):
        return self.call(UNASK, *numbers)

    def sell(self, *numbers):
        return self.call(SELL, *numbers)

    def cancel(self, *numbers):
        return self.call(CANCEL, *numbers)

    def change(self, *numbers):
        return self.call(CHANGE, *numbers)

    def shut(self, *numbers):
        return self.call(SHUT, *numbers)

    def reopen(self, *numbers):
        return self.call(REOPEN, *numbers)

    def sync(self, *numbers):
        return self.call(SYNC, *numbers)

    def cut(self, *numbers):
        return self.call(CUT, *numbers)

    def again(self, *numbers):
        return self.call(AGAIN, *numbers)

    def deliver(self, *numbers):
        return self.call(DELIVER, *numbers)

    def lose(self, *numbers):
        return self.call(LOSE, *numbers)

    def double(self, *numbers):
        return self.call(DOUBLE, *numbers)

    def calm(self, *numbers):
        return self.call(CALM, *numbers)

    def look(self, *numbers):
        """What a call answers that is handed in behind the line and then forgotten."""
        return self.asked([numbers])[0]

    def cell(self, kind, night):
        return self.look(CELL, kind, night)

    def book(self, node):
        return in_groups(self.look(BOOK, node), 4)

    def kept(self, node):
        return in_groups(self.look(KEPT, node), 4)

    def seen(self, agent):
        return in_groups(self.look(SEEN, agent), 4)

    def asks(self, agent):
        return in_groups(self.look(ASKS, agent), 6)

    def waits(self):
        return in_groups(self.look(WAITS), 8)

    def flying(self):
        return parcels_in(self.look(FLYING))

    def owed(self, node):
        return in_groups(self.look(OWED, node), 3)

    def quiet(self):
        return self.look(QUIET)

    def rooming(self, kind):
        return in_groups(self.look(ROOMING, kind), 5)

    def everything(self):
        """All that can be looked at."""
        return self.asked(all_looks(*self.size))

    def deliver_all(self):
        """All that is under way comes, in order."""
        for turn in range(self.under_way()):
            self.deliver(1)

    def pass_on(self, node):
        """The node writes, and all that is under way comes."""
        self.sync(node)
        self.deliver_all()

    def settle(self, agents, rounds):
        """Rounds: each node writes, each sends again, all comes."""
        for turn in range(rounds):
            for node in range(agents + 1):
                self.sync(node)
            for node in range(agents + 1):
                self.again(node)
            self.deliver_all()

    def under_way(self):
        """How many messages are under way: the greatest place that can be delivered."""
        extra = [(DELIVER, place) for place in range(80, 0, -1)]
        for place, answer in zip(range(80, 0, -1), self.asked(extra)):
            if answer == [0]:
                return place
        return 0

    def stock(self, node, kind, night):
        """The stock: the greatest number of rights that the node can part with."""
        call = (GIVE, 1) if node == 0 else (BACK, node)
        extra = [call + (kind, night, night + 1, amount) for amount in range(30, 0, -1)]
        for amount, answer in zip(range(30, 0, -1), self.asked(extra)):
            if answer == [0]:
                return amount
        return 0

    def stocks(self, node, kind, nights):
        """The stock of a kind, night by night."""
        return [self.stock(node, kind, night) for night in range(nights)]

    def bookings(self, node):
        """The numbers of the node's bookings (up to 60)."""
        extra = [(CANCEL, node, number) for number in range(1, 61)]
        return [number for number, answer in enumerate(self.asked(extra), start=1) if answer == [0]]

    def shut_spans(self):
        """The numbers of the spans shut (up to 60)."""
        extra = [(REOPEN, number) for number in range(1, 61)]
        return [number for number, answer in enumerate(self.asked(extra), start=1) if answer == [0]]

    def waiting(self, agent):
        """The numbers of the agent's asks that wait, as it knows."""
        extra = [(UNASK, agent, number) for number in range(1, 41)]
        return [number for number, answer in enumerate(self.asked(extra), start=1) if answer == [0]]

    def unsure(self, node):
        """How many messages the node would send again, with nothing else under way."""
        extra = [(DELIVER, 1)] * self.under_way() + [(CUT, node), (AGAIN, node)]
        return self.asked(extra)[-1][1]


def full_line():
    """A line with 80 under way: 40 gives to agent 1, twice."""
    line = Line(1, 2, 2, [30])
    for turn in range(20):
        line.give(1, 1, 0, 1, 1)
        line.give(1, 1, 1, 2, 1)
    line.sync(0)
    line.again(0)
    return line


# Hotels for lines that are drawn: the rooms of each kind, how many nights, how many agents.
SIZES = (((4, 2), 4, 2), ((3,), 3, 3), ((2, 3, 1), 2, 5), ((5,), 6, 1))
# How often each call from give to calm is drawn.
MIXED = (6, 2, 6, 1, 8, 3, 3, 1, 2, 10, 2, 3, 25, 3, 4, 1)
# The same without calm, and with more of what makes messages come twice, not at all, or in another order.
STORMY = (6, 3, 5, 1, 8, 3, 3, 1, 1, 12, 3, 5, 25, 4, 6, 0)


def drawn_span(draw, size):
    first = draw.randrange(size[1])
    return [draw.randint(1, len(size[0])), first, draw.randint(first + 1, size[1])]


def drawn_call(draw, size, weights):
    """A call with numbers in their ranges; many of them are refused for other reasons."""
    agent = draw.randint(1, size[2])
    node = draw.randint(0, size[2])
    amount = draw.choice((1, 1, 1, 2, 3))
    place = draw.choice((1, 1, 1, 2, 3, 5))
    span = drawn_span(draw, size)
    shapes = (
        [GIVE, agent] + span + [amount],
        [BACK, agent] + span + [amount],
        [ASK, agent] + span + [amount],
        [UNASK, agent, draw.randint(1, 4)],
        [SELL, node] + span,
        [CANCEL, node, draw.randint(1, 6)],
        [CHANGE, node, draw.randint(1, 6)] + span,
        [SHUT] + span + [amount],
        [REOPEN, draw.randint(1, 6)],
        [SYNC, node],
        [CUT, node],
        [AGAIN, node],
        [DELIVER, place],
        [LOSE, place],
        [DOUBLE, place],
        [CALM, draw.choice((1, 2, 60))],
    )
    return draw.choices(shapes, weights=weights)[0]


def drawn_line(seed, length, weights):
    """The size of a hotel and a line of calls on it, open first."""
    draw = random.Random(seed)
    size = SIZES[seed % len(SIZES)]
    calls = [opening(len(size[0]), size[1], size[2], size[0])]
    calls.extend(drawn_call(draw, size, weights) for turn in range(length))
    return size, calls


def answers_of(calls):
    """The answer of each of the calls."""
    return split_answers(answers([number for call in calls for number in call]))
