"""What the calls can't show yet, or can't reach: looked at within the program."""

import random
import unittest

from roomrights.agents import Agent
from roomrights.house import House
from roomrights.messages import ASK, BACK, GIVE, GONE, NO, RECALL, SOLD, UNASK, Parcel
from roomrights.net import Desk
from roomrights.spans import Span
from roomrights.stock import even_stock
from tests.helper import opening
from tests.test_promises import AGENTS, NIGHTS, ROOMS, drawn_line


def picture(value):
    """A value of the program as plain lists, for comparing."""
    if isinstance(value, dict):
        return [(key, picture(value[key])) for key in value]
    if isinstance(value, (list, tuple)):
        return [picture(part) for part in value]
    if hasattr(value, "__dict__"):
        return picture(vars(value))
    return value


def is_quiet(hotel):
    """Nothing under way, all written, all known to have come, and no ask waits."""
    if hotel.under_way.parcels or hotel.house().waits:
        return False
    for node in hotel.nodes:
        if picture(node.known) != picture(node.disk):
            return False
        if any(link.unsure for link in node.known.links.values()):
            return False
    return not any(node.known.asks_waiting() for node in hotel.nodes[1:])


def make_round(desk):
    for node in range(AGENTS + 1):
        desk.answer([10, node])
    for node in range(AGENTS + 1):
        desk.answer([12, node])
    for turn in range(desk.hotel.under_way.amount()):
        desk.answer([13, 1])


def on_the_way(sender, receiver, place, kind, night):
    """Rights for a night in messages that aren't known to have come and weren't taken."""
    rights = 0
    for number, row in sender.unsure:
        if row[0] == place and row[2] == kind and number >= receiver.expected:
            if place == GIVE and row[3] <= night < row[4]:
                rights += row[5]
            elif place == BACK and 0 <= night - row[3] < len(row) - 4:
                rights += row[4 + night - row[3]]
    return rights


def all_rights(hotel, kind, night):
    """Stock, bookings, rooms shut and rights on their way, of all nodes together."""
    house = hotel.house()
    total = 0
    for node in hotel.nodes:
        total += node.known.stock.rows[kind - 1][night]
        entries = node.known.bookings + (node.known.shut_spans if node.number == 0 else [])
        for entry in entries:
            if entry.span.kind == kind and entry.span.first <= night < entry.span.behind:
                total += entry.span.rooms
    for node in hotel.nodes[1:]:
        near = house.links[node.number]
        far = node.known.links[0]
        total += on_the_way(near, far, GIVE, kind, night) + on_the_way(far, near, BACK, kind, night)
    return total


class Rights(unittest.TestCase):
    def assert_just_the_rooms(self, hotel, seed):
        for kind, rooms in enumerate(ROOMS, start=1):
            for night in range(NIGHTS):
                self.assertEqual(all_rights(hotel, kind, night), rooms, (seed, kind, night))
        for node in hotel.nodes:
            self.assertGreaterEqual(min(min(row) for row in node.known.stock.rows), 0, seed)

    def test_together_they_are_just_the_rooms_behind_every_call(self):
        for seed in range(1000, 1080):
            desk = Desk()
            for call in drawn_line(seed, 250):
                desk.answer(call)
                self.assert_just_the_rooms(desk.hotel, seed)

    def test_whatever_is_lost_doubled_and_turned_round(self):
        for seed in range(1100, 1160):
            draw = random.Random(seed)
            desk = Desk()
            for call in drawn_line(seed, 250):
                desk.answer(call)
                parcels = desk.hotel.under_way.parcels
                if parcels and draw.random() < 0.2:
                    parcels.pop(draw.randrange(len(parcels)))
                if parcels and draw.random() < 0.2:
                    desk.hotel.under_way.put(draw.choice(parcels))
                draw.shuffle(parcels)
                self.assert_just_the_rooms(desk.hotel, seed)


class Quiet(unittest.TestCase):
    def quiet_desk(self, seed):
        desk = Desk()
        for call in drawn_line(seed, 200):
            desk.answer(call)
        for turn in range(60):
            if not is_quiet(desk.hotel):
                make_round(desk)
        self.assertTrue(is_quiet(desk.hotel), seed)
        return desk

    def test_it_becomes_quiet_and_the_house_knows_every_agents_bookings(self):
        for seed in range(1200, 1280):
            hotel = self.quiet_desk(seed).hotel
            for agent in range(1, AGENTS + 1):
                told = [entry.booking_numbers() for entry in hotel.house().told[agent]]
                own = [entry.booking_numbers() for entry in hotel.known_by(agent).bookings]
                self.assertEqual(told, own, seed)

    def test_an_ask_made_then_is_given_just_if_the_others_have_enough(self):
        seen = set()
        for seed in range(1300, 1400):
            desk = self.quiet_desk(seed)
            draw = random.Random(seed)
            first = draw.randrange(NIGHTS)
            span = Span(1, first, draw.randint(first + 1, NIGHTS), draw.randint(1, 3))
            others = [desk.hotel.known_by(node).stock.rows[0] for node in (0, 2)]
            enough = all(sum(row[night] for row in others) >= span.rooms for night in range(first, span.behind))
            answer = desk.answer([3, 1] + list(span.numbers()))
            if answer == [-4]:
                continue
            for turn in range(8):
                make_round(desk)
            self.assertTrue(is_quiet(desk.hotel), seed)
            self.assertEqual(desk.hotel.known_by(1).ask_states[answer[1] - 1], 1 if enough else 2, seed)
            seen.add(enough)
        self.assertEqual(seen, {False, True})


class TwelveWaits(unittest.TestCase):
    """Five agents with two asks each can't bring twelve to wait, so this is tried on the house alone."""

    def full_house(self):
        house = House(even_stock([1, 1], 2), [1, 2, 3, 4, 5])
        for number in range(1, 13):
            house.hear(1 + number % 5, (ASK, number, 1, 0, 2, 2))
        self.assertEqual([wait.number for wait in house.waits], list(range(1, 13)))
        return house

    def test_the_thirteenth_is_refused_and_nothing_else_is_done(self):
        house = self.full_house()
        before = picture(house)
        sent = house.links[4].next_message
        house.hear(4, (ASK, 13, 2, 0, 1, 1))
        self.assertEqual(house.links[4].unsure[-1], (sent, (NO, 13)))
        house.links[4].unsure.pop()
        house.links[4].next_message = sent
        self.assertEqual(picture(house), before)

    def test_a_place_that_gets_free_is_taken_with_the_next_number(self):
        house = self.full_house()
        house.hear(4, (ASK, 13, 1, 0, 2, 2))
        house.hear(1 + 7 % 5, (UNASK, 7))
        house.hear(4, (ASK, 14, 1, 0, 2, 2))
        self.assertEqual([wait.number for wait in house.waits], [1, 2, 3, 4, 5, 6, 8, 9, 10, 11, 12, 13])
        self.assertEqual((house.waits[-1].agent, house.waits[-1].ask_number), (4, 14))


class Rows(unittest.TestCase):
    def test_the_places_of_what_messages_tell(self):
        self.assertEqual([GIVE, NO, RECALL, BACK, ASK, UNASK, SOLD, GONE], list(range(1, 9)))

    def test_what_an_agent_tells(self):
        agent = Agent(even_stock([5, 5], 4))
        agent.ask(Span(2, 0, 3, 4))
        agent.unask(1)
        booking = agent.sell(Span(1, 1, 3, 1))
        agent.change(booking, Span(1, 0, 2, 1))
        agent.give_back(Span(2, 1, 4, 2))
        agent.hear(0, (RECALL, 9, 1, 0, 4, 5))
        self.assertEqual(
            agent.links[0].unsure,
            [
                (1, (ASK, 1, 2, 0, 3, 4)),
                (2, (UNASK, 1)),
                (3, (SOLD, 1, 1, 1, 3)),
                (4, (GONE, 1, 1, 1, 3)),
                (5, (SOLD, 2, 1, 0, 2)),
                (6, (BACK, 0, 2, 1, 2, 2, 2)),
                (7, (BACK, 9, 1, 0, 4, 4, 5, 5)),
            ],
        )

    def test_what_the_house_tells(self):
        house = House(even_stock([2], 3), [1, 2, 3])
        house.give(2, 0, Span(1, 0, 2, 1))
        house.hear(1, (ASK, 1, 1, 0, 3, 1))
        house.hear(3, (ASK, 1, 1, 2, 3, 2))
        house.hear(1, (BACK, 1, 1, 2, 0))
        house.hear(2, (BACK, 1, 1, 2, 0))
        self.assertEqual(house.links[1].unsure, [(1, (GIVE, 1, 1, 0, 3, 1)), (2, (RECALL, 2, 1, 2, 3, 2))])
        self.assertEqual(house.links[2].unsure, [(1, (GIVE, 0, 1, 0, 2, 1)), (2, (RECALL, 2, 1, 2, 3, 2))])
        self.assertEqual(house.links[3].unsure, [])
        house.hear(1, (BACK, 2, 1, 2, 0))
        house.hear(2, (BACK, 2, 1, 2, 0))
        self.assertEqual(house.links[3].unsure, [(1, (NO, 1))])
        self.assertEqual(house.waits, [])

    def test_what_the_house_was_told_of(self):
        house = House(even_stock([2], 3), [1, 2])
        house.hear(2, (SOLD, 1, 1, 0, 2))
        house.hear(2, (SOLD, 2, 1, 1, 3))
        house.hear(1, (SOLD, 1, 1, 2, 3))
        house.hear(2, (GONE, 1, 1, 0, 2))
        house.hear(2, (SOLD, 3, 1, 0, 1))
        self.assertEqual([entry.booking_numbers() for entry in house.told[1]], [(1, 1, 2, 3)])
        self.assertEqual([entry.booking_numbers() for entry in house.told[2]], [(2, 1, 1, 3), (3, 1, 0, 1)])

    def test_states_of_asks(self):
        agent = Agent(even_stock([0], 2))
        for turn in range(4):
            agent.ask(Span(1, 0, 1, 1))
        agent.unask(1)
        agent.hear(0, (GIVE, 1, 1, 0, 1, 1))
        agent.hear(0, (GIVE, 2, 1, 0, 1, 1))
        agent.hear(0, (NO, 3))
        agent.hear(0, (GIVE, 0, 1, 0, 1, 1))
        agent.hear(0, (NO, 2))
        agent.hear(0, (NO, 1))
        self.assertEqual(agent.ask_states, [3, 1, 2, 0])
        self.assertEqual(agent.stock.rows, [[3, 0]])


class Disks(unittest.TestCase):
    def test_nothing_done_later_reaches_the_disk(self):
        for seed in range(1500, 1540):
            desk = Desk()
            disks = None
            for call in drawn_line(seed, 200):
                desk.answer(call)
                now = [picture(node.disk) for node in desk.hotel.nodes]
                for number, node in enumerate(desk.hotel.nodes):
                    if disks is not None and call != [10, number]:
                        self.assertEqual(now[number], disks[number], (seed, call))
                    if call == [11, number] or call == [10, number]:
                        self.assertEqual(picture(node.known), now[number], (seed, call))
                disks = now

    def test_word_goes_with_the_number_before_the_one_expected(self):
        desk = Desk()
        desk.answer(opening(1, 1, 1, [9]))
        for turn in range(3):
            desk.answer([1, 1, 1, 0, 1, 1])
        desk.answer([10, 0])
        desk.answer([13, 1])
        desk.answer([13, 1])
        desk.answer([10, 1])
        word = Parcel(1, 0, 2, ())
        self.assertEqual(picture(desk.hotel.under_way.parcels[-1]), picture(word))


if __name__ == "__main__":
    unittest.main()
