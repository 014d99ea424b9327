"""The promises, on lines of calls drawn from fixed seeds, by the answers alone."""

import random
import unittest

from tests.helper import (
    ASK, ASKS, BOOK, CALM, CANCEL, CELL, CHANGE, CUT, DELIVER, FLYING, KEPT, MIXED, OWED, QUIET, REOPEN, ROOMING, SEEN,
    SELL, SHUT, STORMY, SYNC, all_looks, answers_of, drawn_line, drawn_span, in_groups, parcels_in,
)

SOLD = 7


def cells(size):
    return [(CELL, kind, night) for kind in range(1, len(size[0]) + 1) for night in range(size[1])]


def agents(size):
    return range(1, size[2] + 1)


def nodes(size):
    return range(size[2] + 1)


class Books:
    """What a node's bookings and rooms shut must be, by the answers of the calls."""

    def __init__(self):
        self.known = {}
        self.following = 1
        self.disk = {}
        self.disk_following = 1

    def enter(self, number, span, shut):
        if number != self.following:
            raise AssertionError("a number out of its row")
        self.known[number] = (tuple(span), shut)
        self.following += 1

    def leave(self, number, shut):
        if self.known.pop(number)[1] != shut:
            raise AssertionError("a booking and rooms shut are mixed up")

    def write(self):
        """What sync answers."""
        came = [number for number in sorted(self.known) if number not in self.disk and not self.known[number][1]]
        went = [number for number in sorted(self.disk) if number not in self.known and not self.disk[number][1]]
        self.disk = dict(self.known)
        self.disk_following = self.following
        return [0, len(came)] + came + [len(went)] + went

    def cut(self):
        self.known = dict(self.disk)
        self.following = self.disk_following


def listed(entries):
    """The bookings among the entries, as book tells them."""
    return [(number,) + entries[number][0][:3] for number in sorted(entries) if not entries[number][1]]


class Ledger:
    """The books of all nodes, kept by the calls and their answers."""

    def __init__(self, size):
        self.size = size
        self.books = [Books() for node in nodes(size)]

    def follow(self, call, answer):
        """What sync must answer, else the answer itself."""
        place = call[0]
        if place == SYNC:
            return self.books[call[1]].write()
        if answer[0] == 0 and place == SELL:
            self.books[call[1]].enter(answer[1], call[2:] + [1], False)
        elif answer[0] == 0 and place == CANCEL:
            self.books[call[1]].leave(call[2], False)
        elif answer[0] == 0 and place == CHANGE:
            self.books[call[1]].leave(call[2], False)
            self.books[call[1]].enter(answer[1], call[3:] + [1], False)
        elif answer[0] == 0 and place == SHUT:
            self.books[0].enter(answer[1], call[1:], True)
        elif answer[0] == 0 and place == REOPEN:
            self.books[0].leave(call[1], True)
        elif place == CUT:
            self.books[call[1]].cut()
        elif place == CALM:
            for books in self.books:
                books.write()
        return answer

    def stays(self, kind):
        """First night, node, number and the night behind of each stay, in order."""
        found = []
        for node, books in enumerate(self.books):
            for number, (span, shut) in books.known.items():
                if span[0] == kind:
                    found.extend([(span[1], len(self.books) if shut else node, number, span[2])] * span[3])
        return sorted(found)

    def rooming(self, kind):
        """What rooming answers, room by room as it is told."""
        laid = []
        for first, node, number, behind in self.stays(kind):
            room = 1
            while any(other[4] == room and other[3] > first for other in laid):
                room += 1
            laid.append((node, number, first, behind, room))
        return laid


class Rights(unittest.TestCase):
    def test_each_cell_is_just_the_rooms_there_are(self):
        for seed in range(100):
            size, calls = drawn_line(seed, 260, MIXED if seed % 2 else STORMY)
            looks = cells(size)
            for amount in range(5, len(calls) + 1, 15):
                told = answers_of(calls[:amount] + looks)[amount:]
                for look, answer in zip(looks, told):
                    self.assertEqual(answer[:2], [0, size[0][look[1] - 1]], seed)
                    self.assertEqual(len(answer), 5 + 3 * size[2], seed)
                    self.assertEqual(sum(answer[2:]), answer[1], (seed, amount, look))
                    self.assertGreaterEqual(min(answer), 0, (seed, amount, look))

    def test_what_a_cell_tells_of_bookings_and_rooms_shut_is_what_was_sold_and_shut(self):
        for seed in range(100, 140):
            size, calls = drawn_line(seed, 200, MIXED)
            ledger = Ledger(size)
            looks = cells(size)
            told = answers_of(calls + looks)
            for call, answer in zip(calls, told):
                ledger.follow(call, answer)
            for look, answer in zip(looks, told[len(calls):]):
                stays = [stay for stay in ledger.stays(look[1]) if stay[0] <= look[2] < stay[3]]
                held = [len([stay for stay in stays if stay[1] == node]) for node in range(size[2] + 2)]
                self.assertEqual([answer[3], answer[4]] + answer[6::3], [held[0], held[-1]] + held[1:-1], (seed, look))


class Disks(unittest.TestCase):
    def test_what_is_on_a_disk_is_lost_by_nothing(self):
        for seed in range(200, 320):
            size, calls = drawn_line(seed, 270, MIXED if seed % 2 else STORMY)
            ledger = Ledger(size)
            looks = [(place, node) for place in (BOOK, KEPT) for node in nodes(size)]
            told = answers_of(calls + looks)
            for call, answer in zip(calls, told):
                self.assertEqual(answer, ledger.follow(call, answer), (seed, call))
            expected = [listed(books.known) for books in ledger.books] + [listed(books.disk) for books in ledger.books]
            self.assertEqual([in_groups(answer, 4) for answer in told[len(calls):]], expected, seed)

    def test_a_booking_is_on_the_disk_behind_every_call(self):
        for seed in range(320, 380):
            size, calls = drawn_line(seed, 40, MIXED)
            ledger = Ledger(size)
            looks = [(KEPT, node) for node in nodes(size)]
            told = answers_of([given for call in calls for given in [call] + looks])
            for turn, call in enumerate(calls):
                place = turn * (1 + len(looks))
                ledger.follow(call, told[place])
                kept = [in_groups(answer, 4) for answer in told[place + 1:place + 1 + len(looks)]]
                self.assertEqual(kept, [listed(books.disk) for books in ledger.books], (seed, call))


class Postman:
    """Which messages were seen under way, and which each node must expect, by the calls and flying alone."""

    def __init__(self, size):
        self.links = [(0, agent) for agent in agents(size)] + [(agent, 0) for agent in agents(size)]
        self.rows = {link: {} for link in self.links}
        self.expected = dict.fromkeys(self.links, 1)
        self.disk = dict(self.expected)

    def see(self, parcels):
        """A message's number always stands for the same message."""
        for sender, receiver, number, row in parcels:
            if row and self.rows[sender, receiver].setdefault(number, row) != row:
                raise AssertionError("two messages with one number")

    def follow(self, call, answer, parcels):
        """The parcels are those that were under way ahead of the call."""
        if call[0] == SYNC:
            self.disk.update({link: self.expected[link] for link in self.links if link[1] == call[1]})
        elif call[0] == CUT:
            self.expected.update({link: self.disk[link] for link in self.links if link[1] == call[1]})
        elif call[0] == DELIVER and answer == [0]:
            sender, receiver, number, row = parcels[call[1] - 1]
            if row and number == self.expected[sender, receiver]:
                self.expected[sender, receiver] += 1

    def taken(self, link):
        """The messages that were taken on the link, in the order in which they were sent."""
        return [self.rows[link][number] for number in range(1, self.expected[link])]


def told_by(rows):
    """The bookings that sold and gone, in order, leave."""
    bookings = []
    for row in rows:
        if row[0] == SOLD:
            bookings.append(row[1:])
        elif row[0] == SOLD + 1:
            bookings.remove(row[1:])
    return bookings


class Order(unittest.TestCase):
    def test_messages_are_taken_once_and_in_the_order_sent(self):
        taken = 0
        for seed in range(400, 520):
            size, calls = drawn_line(seed, 190, STORMY)
            taken += self.assert_order(size, calls, seed)
        self.assertGreater(taken, 1000)

    def assert_order(self, size, calls, seed):
        """What is under way is looked at ahead of each message that comes; how many were taken in all."""
        postman = Postman(size)
        looked = []
        for call in calls:
            looked.extend([(FLYING,), call] if call[0] == DELIVER else [call])
        looks = [(OWED, node) for node in nodes(size)] + [(SEEN, agent) for agent in agents(size)]
        told = answers_of(looked + looks)
        parcels = []
        for call, answer in zip(looked, told):
            if call == (FLYING,):
                parcels = parcels_in(answer)
                postman.see(parcels)
            else:
                postman.follow(call, answer, parcels)
        owed = [in_groups(answer, 3) for answer in told[len(looked):-size[2]]]
        seen = [in_groups(answer, 4) for answer in told[-size[2]:]]
        for agent in agents(size):
            self.assertEqual(owed[agent][0][1], postman.expected[0, agent], seed)
            self.assertEqual(owed[0][agent - 1][1], postman.expected[agent, 0], seed)
            self.assertEqual(seen[agent - 1], told_by(postman.taken((agent, 0))), seed)
        return sum(postman.expected.values()) - len(postman.links)


class Rounds(unittest.TestCase):
    def test_it_becomes_quiet_and_the_house_knows_every_agents_bookings(self):
        for seed in range(600, 700):
            size, calls = drawn_line(seed, 270, STORMY)
            looks = [(place, agent) for place in (SEEN, BOOK) for agent in agents(size)]
            told = answers_of(calls + [(CALM, 60), (QUIET,)] + looks)[len(calls):]
            self.assertEqual(told[:2], [[0, 1], [0, 1]], seed)
            self.assertEqual(told[2:2 + size[2]], told[2 + size[2]:], seed)

    def test_quiet_stays_quiet(self):
        for seed in range(700, 720):
            size, calls = drawn_line(seed, 200, STORMY)
            looks = all_looks(len(size[0]), size[1], size[2])
            told = answers_of(calls + [(CALM, 60)] + looks + [(SYNC, 0), (SYNC, 1), (CUT, 0), (CUT, 1)] + looks)
            behind = told[len(calls) + 1:]
            self.assertEqual(behind[:len(looks)], behind[-len(looks):], seed)

    def test_an_ask_made_when_it_is_quiet_is_given_just_if_the_others_have_enough(self):
        outcomes = {0: 0, 1: 0, 2: 0}
        for seed in range(800, 960):
            size, calls = drawn_line(seed, 150, STORMY)
            draw = random.Random(seed)
            agent = draw.choice(agents(size))
            span = drawn_span(draw, size)
            amount = draw.choice((1, 1, 2, 3))
            looks = [(CELL, span[0], night) for night in range(span[1], span[2])]
            behind = [(CALM, 60)] + looks + [(ASK, agent) + tuple(span) + (amount,), (CALM, 60), (ASKS, agent)]
            told = answers_of(calls + behind)[len(calls):]
            self.assertEqual((told[0], told[-2]), ([0, 1], [0, 1]), seed)
            if told[-3] == [-4]:
                continue
            enough = [answer[2] + sum(answer[5::3]) - answer[2 + 3 * agent] >= amount for answer in told[1:-3]]
            ask = in_groups(told[-1], 6)[-1]
            self.assertEqual(ask, (told[-3][1],) + tuple(span) + (amount, 1 if all(enough) else 2), seed)
            outcomes[ask[-1]] += 1
        self.assertGreater(min(outcomes[1], outcomes[2]), 30)


class Rooms(unittest.TestCase):
    def test_the_stays_of_a_kind_always_fit_into_its_rooms(self):
        stays = 0
        for seed in range(1000, 1080):
            size, calls = drawn_line(seed, 280, MIXED)
            ledger = Ledger(size)
            looks = [(ROOMING, kind + 1) for kind in range(len(size[0]))]
            told = answers_of(calls)
            for amount, call in enumerate(calls, start=1):
                ledger.follow(call, told[amount - 1])
                if amount % 20 == 0:
                    laid = answers_of(calls[:amount] + looks)[amount:]
                    for kind, answer in enumerate(laid, start=1):
                        stays += len(answer) // 5
                        self.assert_fit(in_groups(answer, 5), size[0][kind - 1], seed)
                        self.assertEqual(in_groups(answer, 5), ledger.rooming(kind), (seed, amount))
        self.assertGreater(stays, 2000)

    def assert_fit(self, laid, rooms, seed):
        held = {}
        for node, number, first, behind, room in laid:
            self.assertTrue(1 <= room <= rooms, seed)
            for night in range(first, behind):
                self.assertNotIn((room, night), held, seed)
                held[room, night] = number


class Looks(unittest.TestCase):
    def test_calls_that_only_look_change_nothing(self):
        for seed in range(1200, 1260):
            size, calls = drawn_line(seed, 140, MIXED)
            draw = random.Random(seed)
            looks = all_looks(len(size[0]), size[1], size[2])
            mixed = []
            own = []
            for call in calls:
                own.append(len(mixed))
                mixed.append(call)
                mixed.extend(draw.sample(looks, draw.randint(0, 2)))
            told = answers_of(mixed)
            self.assertEqual([told[place] for place in own], answers_of(calls), seed)

    def test_looking_twice_tells_the_same(self):
        for seed in range(1260, 1280):
            size, calls = drawn_line(seed, 140, STORMY)
            looks = all_looks(len(size[0]), size[1], size[2])
            told = answers_of(calls + looks + looks)[len(calls):]
            self.assertEqual(told[:len(looks)], told[len(looks):], seed)


if __name__ == "__main__":
    unittest.main()
