"""The promises, on lines of calls drawn from fixed seeds, by the answers alone."""

import random
import unittest

from roomrights.net import answers
from tests.helper import CANCEL, CHANGE, CUT, DELIVER, REOPEN, SELL, SHUT, SYNC, Line, opening, split_answers

NIGHTS = 4
ROOMS = (4, 2)
AGENTS = 2


def drawn_span(draw):
    first = draw.randrange(NIGHTS)
    return [draw.randint(1, len(ROOMS)), first, draw.randint(first + 1, NIGHTS)]


def drawn_call(draw):
    """A call with numbers in their ranges; many of them are refused for other reasons."""
    agent = draw.randint(1, AGENTS)
    node = draw.randint(0, AGENTS)
    amount = draw.choice((1, 1, 1, 2, 3))
    span = drawn_span(draw)
    shapes = (
        [1, agent] + span + [amount],
        [2, agent] + span + [amount],
        [3, agent] + span + [amount],
        [4, agent, draw.randint(1, 4)],
        [5, node] + span,
        [6, node, draw.randint(1, 6)],
        [7, node, draw.randint(1, 6)] + span,
        [8] + span + [amount],
        [9, draw.randint(1, 6)],
        [10, node],
        [11, node],
        [12, node],
        [13, draw.choice((1, 1, 1, 2, 3, 5))],
    )
    return draw.choices(shapes, weights=(6, 2, 6, 1, 8, 3, 3, 1, 2, 10, 2, 3, 25))[0]


def drawn_line(seed, length):
    draw = random.Random(seed)
    return [opening(len(ROOMS), NIGHTS, AGENTS, ROOMS)] + [drawn_call(draw) for turn in range(length)]


class Books:
    """What a node's bookings and rooms shut must be, by the answers of the calls."""

    def __init__(self):
        self.known = {}
        self.following = 1
        self.disk = {}
        self.disk_following = 1

    def enter(self, number, span, shut):
        if number != self.following:
            raise AssertionError("a number out of its row")
        self.known[number] = (tuple(span), shut)
        self.following += 1

    def leave(self, number, shut):
        if self.known.pop(number)[1] != shut:
            raise AssertionError("a booking and rooms shut are mixed up")

    def write(self):
        came = [number for number in sorted(self.known) if number not in self.disk and not self.known[number][1]]
        went = [number for number in sorted(self.disk) if number not in self.known and not self.disk[number][1]]
        self.disk = dict(self.known)
        self.disk_following = self.following
        return [0, len(came)] + came + [len(went)] + went

    def cut(self):
        self.known = dict(self.disk)
        self.following = self.disk_following


class Ledger:
    """The books of all nodes, kept by the calls and their answers."""

    def __init__(self):
        self.books = [Books() for node in range(AGENTS + 1)]

    def follow(self, call, answer):
        """What sync must answer, else the answer itself."""
        place = call[0]
        if place == SYNC:
            return self.books[call[1]].write()
        if answer[0] == 0 and place == SELL:
            self.books[call[1]].enter(answer[1], call[2:] + [1], False)
        elif answer[0] == 0 and place == CANCEL:
            self.books[call[1]].leave(call[2], False)
        elif answer[0] == 0 and place == CHANGE:
            self.books[call[1]].leave(call[2], False)
            self.books[call[1]].enter(answer[1], call[3:] + [1], False)
        elif answer[0] == 0 and place == SHUT:
            self.books[0].enter(answer[1], call[1:], True)
        elif answer[0] == 0 and place == REOPEN:
            self.books[0].leave(call[1], True)
        elif place == CUT:
            self.books[call[1]].cut()
        return answer

    def held(self, kind):
        """How many rooms of the kind are sold or shut, night by night."""
        nights = [0] * NIGHTS
        for first, behind, amount in self.spans(kind):
            for night in range(first, behind):
                nights[night] += amount
        return nights

    def spans(self, kind):
        found = []
        for books in self.books:
            for span, shut in books.known.values():
                if span[0] == kind:
                    found.append(span[1:])
        return found

    def rooms_needed(self, kind):
        """How many rooms it takes when each stay, by its first night, gets the least that is free."""
        taken = []
        for first, behind, amount in sorted(self.spans(kind)):
            for turn in range(amount):
                free = [room for room, until in enumerate(taken) if until <= first]
                if free:
                    taken[free[0]] = behind
                else:
                    taken.append(behind)
        return len(taken)


class Promises(unittest.TestCase):
    def test_bookings_and_rooms_shut_are_never_more_than_the_rooms_and_always_fit(self):
        for seed in range(120):
            calls = drawn_line(seed, 250)
            ledger = Ledger()
            for call, answer in zip(calls, split_answers(answers(sum(calls, [])))):
                ledger.follow(call, answer)
                for kind, rooms in enumerate(ROOMS, start=1):
                    self.assertLessEqual(max(ledger.held(kind)), rooms, seed)
                    self.assertLessEqual(ledger.rooms_needed(kind), rooms, seed)

    def test_what_is_on_a_disk_is_lost_by_nothing(self):
        for seed in range(200, 320):
            calls = drawn_line(seed, 200)
            ledger = Ledger()
            for call, answer in zip(calls, split_answers(answers(sum(calls, [])))):
                self.assertEqual(answer, ledger.follow(call, answer), (seed, call))
            line = Line()
            line.calls = sum(calls, [])
            line.amount = len(calls)
            for node in range(AGENTS + 1):
                line.cut(node)
                books = ledger.books[node]
                kept = [number for number in sorted(books.disk) if not books.disk[number][1]]
                self.assertEqual(line.bookings(node), kept, seed)

    def test_when_all_has_come_nothing_is_missing_and_nothing_is_too_much(self):
        settled = 0
        for seed in range(400, 430):
            line, ledger = self.followed(drawn_line(seed, 45))
            for turn in range(7):
                if not self.made_round(line, ledger):
                    continue
                settled += 1
                self.assert_just_the_rooms(line, ledger, seed)
                break
        self.assertGreater(settled, 20)

    def followed(self, calls):
        line = Line()
        ledger = Ledger()
        for call in calls:
            ledger.follow(call, line.call(*call))
        return line, ledger

    def made_round(self, line, ledger):
        """Make a round, if the line isn't too long for one; whether no node has anything to send again."""
        sent = 0
        for node in range(AGENTS + 1):
            ledger.follow([SYNC, node], line.sync(node))
        for node in range(AGENTS + 1):
            sent += line.again(node)[1]
        amount = line.under_way()
        if line.amount + amount > 180:
            return False
        for turn in range(amount):
            self.assertEqual(line.call(DELIVER, 1), [0])
        return sent == 0 and amount == 0

    def assert_just_the_rooms(self, line, ledger, seed):
        for kind, rooms in enumerate(ROOMS, start=1):
            held = ledger.held(kind)
            for night in range(NIGHTS):
                rights = sum(line.stock(node, kind, night) for node in range(AGENTS + 1))
                self.assertEqual(rights + held[night], rooms, (seed, kind, night))

    def test_an_ask_made_when_all_is_quiet_is_given_just_if_the_others_have_enough(self):
        for amount in range(1, 8):
            line = Line(1, 2, 3, [9])
            line.give(1, 1, 0, 2, 2)
            line.give(2, 1, 0, 1, 3)
            line.give(3, 1, 0, 2, 2)
            line.settle(3, 2)
            line.sell(3, 1, 1, 2)
            line.settle(3, 2)
            self.assertEqual(line.ask(1, 1, 0, 2, amount), [0, 1])
            line.settle(3, 4)
            self.assertEqual(line.waiting(1), [])
            given = amount if amount <= 6 else 0
            self.assertEqual(line.stocks(1, 1, 2), [2 + given, 2 + given])


if __name__ == "__main__":
    unittest.main()
