"""What the calls can't reach, or can't show behind each other: looked at within the program."""

import random
import unittest

from roomrights.house import House
from roomrights.messages import ASK, BACK, GIVE, NO, UNASK
from roomrights.net import Desk
from roomrights.spans import Entry, Span
from roomrights.stock import even_stock
from tests.helper import CALM, CELL, CUT, MIXED, QUIET, STORMY, SYNC, all_looks, drawn_line, opening


def picture(value):
    """A value of the program as plain lists, for comparing."""
    if isinstance(value, dict):
        return [(key, picture(value[key])) for key in value]
    if isinstance(value, (list, tuple)):
        return [picture(part) for part in value]
    if hasattr(value, "__dict__"):
        return picture(vars(value))
    return value


def on_the_way(sender, receiver, place, kind, night):
    """Rights for a night in messages that aren't known to have come and weren't taken."""
    rights = 0
    for number, row in sender.unsure:
        if row[0] == place and row[2] == kind and number >= receiver.expected:
            if place == GIVE and row[3] <= night < row[4]:
                rights += row[5]
            elif place == BACK and 0 <= night - row[3] < len(row) - 4:
                rights += row[4 + night - row[3]]
    return rights


def held(entries, kind, night):
    spans = [entry.span for entry in entries if entry.span.kind == kind]
    return sum(span.rooms for span in spans if span.first <= night < span.behind)


def cell_within(hotel, size, kind, night):
    """What cell must answer, by what the nodes know."""
    house = hotel.nodes[0].known
    cell = [0, size[0][kind - 1], house.stock.rows[kind - 1][night]]
    cell.extend((held(house.bookings, kind, night), held(house.shut_spans, kind, night)))
    for agent in range(1, size[2] + 1):
        known = hotel.nodes[agent].known
        near = house.links[agent]
        far = known.links[0]
        cell.extend((known.stock.rows[kind - 1][night], held(known.bookings, kind, night)))
        cell.append(on_the_way(near, far, GIVE, kind, night) + on_the_way(far, near, BACK, kind, night))
    return cell


class Rights(unittest.TestCase):
    def assert_just_the_rooms(self, desk, size, seed):
        for kind in range(1, len(size[0]) + 1):
            for night in range(size[1]):
                cell = desk.answer([CELL, kind, night])
                self.assertEqual(sum(cell[2:]), cell[1], (seed, kind, night))
                self.assertEqual(cell, cell_within(desk.hotel, size, kind, night), (seed, kind, night))
        for node in desk.hotel.nodes:
            self.assertGreaterEqual(min(min(row) for row in node.known.stock.rows), 0, seed)

    def test_together_they_are_just_the_rooms_behind_every_call(self):
        for seed in range(2000, 2040):
            desk = Desk()
            size, calls = drawn_line(seed, 250, MIXED)
            for call in calls:
                desk.answer(call)
                self.assert_just_the_rooms(desk, size, seed)

    def test_however_the_net_turns_messages_round(self):
        for seed in range(2100, 2120):
            draw = random.Random(seed)
            desk = Desk()
            size, calls = drawn_line(seed, 250, STORMY)
            for call in calls:
                desk.answer(call)
                draw.shuffle(desk.hotel.under_way.parcels)
                self.assert_just_the_rooms(desk, size, seed)


class Quiet(unittest.TestCase):
    """An ask waits only as long as some message isn't known to have come, so these two can't be alone by calls."""

    def quiet_desk(self):
        desk = Desk()
        desk.answer(opening(1, 2, 2, [3]))
        self.assertEqual(desk.answer([QUIET]), [0, 1])
        return desk

    def forget_messages(self, node):
        for known in (node.known, node.disk):
            for link in known.links.values():
                link.unsure = []
                link.owes_word = False

    def test_not_with_an_ask_that_waits_at_the_house(self):
        desk = self.quiet_desk()
        house = desk.hotel.nodes[0]
        house.known.hear(1, (ASK, 1, 1, 0, 1, 4))
        house.disk = house.known.copied()
        self.forget_messages(house)
        self.assertEqual(desk.answer([QUIET]), [0, 0])
        house.known.waits = []
        house.disk.waits = []
        self.assertEqual(desk.answer([QUIET]), [0, 1])

    def test_not_with_an_ask_in_state_0_at_an_agent(self):
        for agent in (1, 2):
            desk = self.quiet_desk()
            node = desk.hotel.nodes[agent]
            node.known.ask(Span(1, 0, 1, 1))
            node.disk = node.known.copied()
            self.forget_messages(node)
            self.assertEqual(desk.answer([QUIET]), [0, 0])
            for state in (1, 2, 3):
                node.known.ask_states[0] = state
                node.disk.ask_states[0] = state
                self.assertEqual(desk.answer([QUIET]), [0, 1])

    def test_not_when_any_one_thing_is_known_otherwise_than_on_the_disk(self):
        desk = self.quiet_desk()
        desk.hotel.nodes[0].known.told[2].append(desk.hotel.nodes[0].known.sell(Span(1, 0, 1, 1)))
        desk.answer([SYNC, 0])
        self.assertEqual(desk.answer([QUIET]), [0, 1])
        changes = (
            (0, lambda known: known.stock.rows[0].reverse()),
            (0, lambda known: known.bookings.pop()),
            (0, lambda known: setattr(known, "next_number", 9)),
            (0, lambda known: setattr(known, "next_wait", 9)),
            (0, lambda known: known.shut_spans.append(known.bookings[0])),
            (0, lambda known: known.told[2].pop()),
            (0, lambda known: setattr(known.links[2], "next_message", 9)),
            (0, lambda known: setattr(known.links[2], "expected", 9)),
            (0, lambda known: setattr(known.links[2], "owes_word", True)),
            (2, lambda known: known.stock.add_span(Span(1, 1, 2, 1))),
            (2, lambda known: setattr(known, "next_number", 9)),
            (2, lambda known: setattr(known.links[0], "expected", 9)),
            (2, lambda known: setattr(known.links[0], "owes_word", True)),
            (2, lambda known: known.ask_states.append(3)),
            (2, lambda known: known.ask_spans.append(Span(1, 0, 1, 1))),
        )
        for place, (node, change) in enumerate(changes):
            change(desk.hotel.nodes[node].known)
            self.assertEqual(desk.answer([QUIET]), [0, 0], place)
            desk.answer([CUT, node])
            self.assertEqual(desk.answer([QUIET]), [0, 1], place)

    def test_facts_tell_entries_and_waits_apart(self):
        house = House(even_stock([3], 2), [1, 2])
        house.hear(1, (ASK, 1, 1, 0, 1, 4))
        self.assertEqual(house.facts(), house.copied().facts())
        values = {"number": 9, "agent": 2, "ask_number": 9, "span": Span(1, 0, 2, 4), "asked_around": False}
        values["unanswered"] = []
        self.assertEqual(set(values), set(vars(house.waits[0])))
        for name, value in values.items():
            other = house.copied()
            setattr(other.waits[0], name, value)
            self.assertNotEqual(house.facts(), other.facts(), name)
        entries = [Entry(number, Span(*span)) for number in (1, 2) for span in ((1, 0, 1, 1), (1, 0, 2, 1), (1, 0, 1, 2))]
        told = [entry.facts() for entry in entries]
        self.assertEqual(len(set(told)), len(entries))

    def test_just_what_is_known_and_on_the_disk_counts(self):
        quiet = 0
        for seed in range(2200, 2260):
            desk = Desk()
            for call in drawn_line(seed, 200, MIXED)[1]:
                desk.answer(call)
                self.assertEqual(desk.answer([QUIET]), [0, 1 if self.is_quiet(desk.hotel) else 0], seed)
                quiet += desk.answer([QUIET])[1]
        self.assertGreater(quiet, 100)

    def is_quiet(self, hotel):
        if hotel.under_way.parcels or hotel.nodes[0].known.waits:
            return False
        for node in hotel.nodes:
            if picture(node.known) != picture(node.disk):
                return False
            if any(link.unsure for link in node.known.links.values()):
                return False
        return not any(0 in node.known.ask_states for node in hotel.nodes[1:])


class Calm(unittest.TestCase):
    """A round made when it is quiet changes nothing, so that none is made can't be told from answers."""

    def rounds_made(self, desk, most):
        made = []
        plain = desk.hotel.make_round
        desk.hotel.make_round = lambda: made.append(plain())
        desk.answer([CALM, most])
        del desk.hotel.make_round
        return len(made)

    def test_no_round_is_made_when_it_is_quiet(self):
        desk = Desk()
        desk.answer(opening(1, 2, 2, [3]))
        self.assertEqual(self.rounds_made(desk, 60), 0)
        desk.answer([1, 1, 1, 0, 2, 1])
        self.assertEqual(self.rounds_made(desk, 1), 1)
        self.assertEqual(self.rounds_made(desk, 60), 2)
        self.assertEqual(self.rounds_made(desk, 60), 0)

    def test_no_more_than_told(self):
        for most in (1, 2, 3, 4, 60):
            desk = Desk()
            desk.answer(opening(1, 2, 2, [3]))
            desk.answer([1, 1, 1, 0, 2, 1])
            self.assertEqual(self.rounds_made(desk, most), min(most, 3))


class TwelveWaits(unittest.TestCase):
    """Five agents with two asks each can't bring twelve to wait, so this is tried on the house alone."""

    def full_house(self):
        house = House(even_stock([1, 1], 2), [1, 2, 3, 4, 5])
        for number in range(1, 13):
            house.hear(1 + number % 5, (ASK, number, 1, 0, 2, 2))
        self.assertEqual([wait.number for wait in house.waits], list(range(1, 13)))
        return house

    def test_the_thirteenth_is_refused_and_nothing_else_is_done(self):
        house = self.full_house()
        before = picture(house)
        sent = house.links[4].next_message
        house.hear(4, (ASK, 13, 2, 0, 1, 1))
        self.assertEqual(house.links[4].unsure[-1], (sent, (NO, 13)))
        house.links[4].unsure.pop()
        house.links[4].next_message = sent
        self.assertEqual(picture(house), before)

    def test_a_place_that_gets_free_is_taken_with_the_next_number(self):
        house = self.full_house()
        house.hear(4, (ASK, 13, 1, 0, 2, 2))
        house.hear(1 + 7 % 5, (UNASK, 7))
        house.hear(4, (ASK, 14, 1, 0, 2, 2))
        self.assertEqual([wait.number for wait in house.waits], [1, 2, 3, 4, 5, 6, 8, 9, 10, 11, 12, 13])
        self.assertEqual((house.waits[-1].agent, house.waits[-1].ask_number), (4, 14))


class Disks(unittest.TestCase):
    def test_nothing_done_later_reaches_the_disk(self):
        for seed in range(2300, 2340):
            desk = Desk()
            disks = None
            for call in drawn_line(seed, 200, MIXED)[1]:
                desk.answer(call)
                now = [picture(node.disk) for node in desk.hotel.nodes]
                for number, node in enumerate(desk.hotel.nodes):
                    if disks is not None and call != [SYNC, number] and call[0] != CALM:
                        self.assertEqual(now[number], disks[number], (seed, call))
                    if call == [CUT, number] or call == [SYNC, number]:
                        self.assertEqual(picture(node.known), now[number], (seed, call))
                disks = now

    def test_looking_alters_nothing_within(self):
        for seed in range(2400, 2410):
            size, calls = drawn_line(seed, 200, MIXED)
            desk = Desk()
            for call in calls:
                desk.answer(call)
            before = picture(desk.hotel)
            for look in all_looks(len(size[0]), size[1], size[2]):
                desk.answer(list(look))
                self.assertEqual(picture(desk.hotel), before, (seed, look))


if __name__ == "__main__":
    unittest.main()
