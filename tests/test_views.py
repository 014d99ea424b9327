"""What can be looked at: bookings, asks, waits, messages under way and links."""

import unittest

from tests.helper import Line


class BookAndKept(unittest.TestCase):
    def test_empty(self):
        line = Line(1, 2, 2, [3])
        for node in range(3):
            self.assertEqual(line.look(18, node), [0])
            self.assertEqual(line.look(26, node), [0])

    def test_numbers_in_a_row_without_a_count(self):
        line = Line(2, 4, 1, [3, 3])
        line.sell(0, 1, 1, 3)
        line.sell(0, 2, 0, 4)
        self.assertEqual(line.look(18, 0), [0, 1, 1, 1, 3, 2, 2, 0, 4])
        self.assertEqual(line.look(26, 0), [0])
        line.sync(0)
        self.assertEqual(line.look(26, 0), [0, 1, 1, 1, 3, 2, 2, 0, 4])

    def test_in_the_order_of_their_numbers(self):
        line = Line(2, 4, 1, [3, 3])
        line.sell(0, 1, 3, 4)
        line.sell(0, 2, 2, 3)
        line.shut(1, 0, 1, 1)
        line.sell(0, 1, 0, 1)
        line.change(0, 1, 1, 1, 2)
        self.assertEqual(line.book(0), [(2, 2, 2, 3), (4, 1, 0, 1), (5, 1, 1, 2)])
        line.cancel(0, 4)
        line.sell(0, 2, 0, 4)
        self.assertEqual(line.book(0), [(2, 2, 2, 3), (5, 1, 1, 2), (6, 2, 0, 4)])

    def test_the_disk_follows_only_a_writing(self):
        line = Line(1, 4, 1, [3])
        line.sell(0, 1, 0, 1)
        line.sell(0, 1, 1, 2)
        line.sync(0)
        line.cancel(0, 1)
        line.sell(0, 1, 2, 3)
        line.change(0, 2, 1, 3, 4)
        self.assertEqual(line.book(0), [(3, 1, 2, 3), (4, 1, 3, 4)])
        self.assertEqual(line.kept(0), [(1, 1, 0, 1), (2, 1, 1, 2)])
        line.sync(0)
        self.assertEqual(line.book(0), [(3, 1, 2, 3), (4, 1, 3, 4)])
        self.assertEqual(line.kept(0), [(3, 1, 2, 3), (4, 1, 3, 4)])

    def test_behind_a_cut(self):
        line = Line(1, 4, 1, [3])
        line.sell(0, 1, 0, 1)
        line.sync(0)
        line.sell(0, 1, 1, 2)
        line.cancel(0, 1)
        line.cut(0)
        self.assertEqual(line.book(0), [(1, 1, 0, 1)])
        self.assertEqual(line.kept(0), [(1, 1, 0, 1)])
        self.assertEqual(line.sell(0, 1, 2, 4), [0, 2])
        self.assertEqual(line.book(0), [(1, 1, 0, 1), (2, 1, 2, 4)])
        self.assertEqual(line.kept(0), [(1, 1, 0, 1)])

    def test_of_each_node_its_own(self):
        line = Line(1, 4, 2, [6])
        line.give(1, 1, 0, 4, 2)
        line.give(2, 1, 0, 4, 2)
        line.calm(60)
        line.sell(1, 1, 0, 1)
        line.sell(2, 1, 1, 2)
        line.sell(2, 1, 2, 4)
        line.sync(2)
        self.assertEqual([line.book(node) for node in range(3)], [[], [(1, 1, 0, 1)], [(1, 1, 1, 2), (2, 1, 2, 4)]])
        self.assertEqual([line.kept(node) for node in range(3)], [[], [], [(1, 1, 1, 2), (2, 1, 2, 4)]])
        line.cut(1)
        line.cut(2)
        self.assertEqual([line.book(node) for node in range(3)], [[], [], [(1, 1, 1, 2), (2, 1, 2, 4)]])

    def test_rooms_shut_are_no_bookings(self):
        line = Line(1, 1, 1, [3])
        line.shut(1, 0, 1, 2)
        line.sync(0)
        self.assertEqual((line.book(0), line.kept(0)), ([], []))


class Asks(unittest.TestCase):
    def test_empty(self):
        line = Line(1, 2, 2, [3])
        self.assertEqual(line.look(19, 1), [0])
        self.assertEqual(line.look(19, 2), [0])

    def test_each_state(self):
        line = Line(2, 3, 2, [3, 1])
        line.ask(1, 1, 0, 2, 2)
        line.ask(1, 2, 0, 3, 2)
        line.calm(60)
        line.ask(1, 1, 2, 3, 1)
        line.unask(1, 3)
        line.ask(1, 2, 1, 2, 30)
        states = [(1, 1, 0, 2, 2, 1), (2, 2, 0, 3, 2, 2), (3, 1, 2, 3, 1, 3), (4, 2, 1, 2, 30, 0)]
        self.assertEqual(line.asks(1), states)
        self.assertEqual(line.look(19, 1), [0] + [number for ask in states for number in ask])
        self.assertEqual(line.asks(2), [])

    def test_until_the_answer_comes_it_waits(self):
        line = Line(1, 3, 1, [3])
        line.ask(1, 1, 0, 1, 1)
        self.assertEqual(line.asks(1), [(1, 1, 0, 1, 1, 0)])
        line.pass_on(1)
        self.assertEqual(line.asks(1), [(1, 1, 0, 1, 1, 0)])
        line.sync(0)
        self.assertEqual(line.asks(1), [(1, 1, 0, 1, 1, 0)])
        line.deliver(1)
        self.assertEqual(line.asks(1), [(1, 1, 0, 1, 1, 1)])

    def test_a_give_or_a_no_that_comes_too_late_alters_no_state(self):
        for amount in (1, 4):
            line = Line(1, 3, 1, [3])
            line.ask(1, 1, 0, 1, amount)
            line.pass_on(1)
            line.unask(1, 1)
            line.pass_on(0)
            self.assertEqual(line.asks(1), [(1, 1, 0, 1, amount, 3)])

    def test_behind_a_cut(self):
        line = Line(1, 3, 1, [3])
        line.ask(1, 1, 0, 1, 1)
        line.cut(1)
        self.assertEqual(line.asks(1), [])
        line.ask(1, 1, 1, 2, 2)
        line.sync(1)
        line.unask(1, 1)
        line.ask(1, 1, 0, 3, 3)
        self.assertEqual(line.asks(1), [(1, 1, 1, 2, 2, 3), (2, 1, 0, 3, 3, 0)])
        line.cut(1)
        self.assertEqual(line.asks(1), [(1, 1, 1, 2, 2, 0)])
        line.deliver(1)
        line.sync(0)
        line.deliver(1)
        self.assertEqual(line.asks(1), [(1, 1, 1, 2, 2, 1)])
        line.cut(1)
        self.assertEqual(line.asks(1), [(1, 1, 1, 2, 2, 0)])

    def test_forty(self):
        line = Line(1, 1, 1, [1])
        for number in range(1, 41):
            line.ask(1, 1, 0, 1, 1)
            line.unask(1, number)
        self.assertEqual(line.asks(1), [(number, 1, 0, 1, 1, 3) for number in range(1, 41)])


class Waits(unittest.TestCase):
    def asked(self):
        """Two rooms, one with agent 2; agents 1 and 3 ask for both in turn, and the house has written."""
        line = Line(2, 3, 3, [2, 0])
        line.give(2, 1, 0, 3, 1)
        line.calm(60)
        line.ask(1, 1, 0, 2, 2)
        line.pass_on(1)
        line.ask(3, 1, 1, 3, 2)
        line.ask(3, 2, 0, 1, 7)
        line.pass_on(3)
        line.sync(0)
        return line

    def test_empty(self):
        line = Line(1, 2, 2, [3])
        self.assertEqual(line.look(20), [0])
        line.ask(1, 1, 0, 1, 1)
        self.assertEqual(line.look(20), [0])
        line.pass_on(1)
        self.assertEqual(line.look(20), [0])

    def test_asked_around_or_not_and_how_many_have_not_answered(self):
        line = self.asked()
        first = (1, 1, 1, 0, 2, 2, 1, 2)
        second = (3, 1, 1, 1, 3, 2, 0, 0)
        third = (3, 2, 2, 0, 1, 7, 1, 2)
        self.assertEqual(line.waits(), [first, second, third])
        self.assertEqual(line.look(20), [0] + list(first + second + third))

    def test_answers_come_one_by_one(self):
        line = self.asked()
        line.deliver_all()
        line.pass_on(1)
        self.assertEqual([wait[6:] for wait in line.waits()], [(1, 2), (0, 0), (1, 1)])
        line.pass_on(3)
        self.assertEqual([wait[6:] for wait in line.waits()], [(1, 1), (0, 0), (1, 1)])
        line.pass_on(2)
        self.assertEqual(line.waits(), [(3, 1, 1, 1, 3, 2, 1, 2)])
        line.calm(60)
        self.assertEqual(line.waits(), [])
        # What agent 1 was given for night 1 it hadn't sold when it was recalled for agent 3.
        self.assertEqual([ask[-1] for ask in line.asks(1) + line.asks(3)], [1, 1, 2])

    def test_one_that_is_taken_back(self):
        line = self.asked()
        line.unask(1, 1)
        self.assertEqual(len(line.waits()), 3)
        line.sync(1)
        line.deliver(len(line.flying()))
        self.assertEqual(line.waits(), [(3, 1, 1, 1, 3, 2, 1, 2), (3, 2, 2, 0, 1, 7, 1, 2)])

    def test_behind_a_cut(self):
        line = self.asked()
        before = line.waits()
        line.deliver_all()
        line.pass_on(1)
        self.assertNotEqual(line.waits(), before)
        line.cut(0)
        self.assertEqual(line.waits(), before)

    def test_behind_a_cut_ahead_of_the_writing(self):
        line = Line(1, 1, 2, [1])
        line.ask(1, 1, 0, 1, 2)
        line.pass_on(1)
        self.assertEqual(line.waits(), [(1, 1, 1, 0, 1, 2, 1, 1)])
        line.cut(0)
        self.assertEqual(line.waits(), [])
        line.again(1)
        line.deliver(1)
        self.assertEqual(line.waits(), [(1, 1, 1, 0, 1, 2, 1, 1)])

    def test_ten_wait_of_five_agents(self):
        line = Line(1, 1, 5, [1])
        for agent in (5, 4, 3, 2, 1):
            line.ask(agent, 1, 0, 1, 2)
            line.ask(agent, 1, 0, 1, 3)
            line.pass_on(agent)
        expected = [(agent, ask, 1, 0, 1, ask + 1, 0, 0) for agent in (5, 4, 3, 2, 1) for ask in (1, 2)]
        expected[0] = (5, 1, 1, 0, 1, 2, 1, 4)
        self.assertEqual(line.waits(), expected)


class Seen(unittest.TestCase):
    def sellers(self):
        """Agents 1 and 2 have 3 rooms each; all is quiet."""
        line = Line(1, 4, 2, [6])
        line.give(1, 1, 0, 4, 3)
        line.give(2, 1, 0, 4, 3)
        line.calm(60)
        return line

    def test_empty(self):
        line = self.sellers()
        self.assertEqual(line.look(21, 1), [0])
        line.sell(1, 1, 0, 1)
        line.sync(1)
        self.assertEqual(line.look(21, 1), [0])
        line.sell(0, 1, 0, 1)
        self.assertEqual(line.look(21, 1), [0])
        self.assertEqual(line.look(21, 2), [0])

    def test_sold(self):
        line = self.sellers()
        line.sell(1, 1, 0, 1)
        line.sell(1, 1, 1, 4)
        line.sell(2, 1, 2, 3)
        line.sync(1)
        line.sync(2)
        line.deliver(1)
        self.assertEqual(line.look(21, 1), [0, 1, 1, 0, 1])
        line.deliver(1)
        self.assertEqual(line.look(21, 1), [0, 1, 1, 0, 1, 2, 1, 1, 4])
        self.assertEqual(line.look(21, 2), [0])
        line.deliver(1)
        self.assertEqual(line.look(21, 2), [0, 1, 1, 2, 3])

    def test_changed_and_dropped_as_it_was_told(self):
        line = self.sellers()
        for night in range(3):
            line.sell(1, 1, night, night + 1)
        line.change(1, 1, 1, 2, 4)
        line.cancel(1, 2)
        line.sync(1)
        stages = (
            [(1, 1, 0, 1)],
            [(1, 1, 0, 1), (2, 1, 1, 2)],
            [(1, 1, 0, 1), (2, 1, 1, 2), (3, 1, 2, 3)],
            [(2, 1, 1, 2), (3, 1, 2, 3)],
            [(2, 1, 1, 2), (3, 1, 2, 3), (4, 1, 2, 4)],
            [(3, 1, 2, 3), (4, 1, 2, 4)],
        )
        for stage in stages:
            line.deliver(1)
            self.assertEqual(line.seen(1), stage)
        self.assertEqual(line.book(1), stages[-1])

    def test_behind_a_cut_of_the_house(self):
        line = self.sellers()
        line.sell(1, 1, 0, 1)
        line.pass_on(1)
        line.sync(0)
        line.sell(1, 1, 1, 2)
        line.cancel(1, 1)
        line.sync(1)
        line.deliver_all()
        self.assertEqual(line.seen(1), [(2, 1, 1, 2)])
        line.cut(0)
        self.assertEqual(line.seen(1), [(1, 1, 0, 1)])
        line.calm(60)
        self.assertEqual(line.seen(1), [(2, 1, 1, 2)])

    def test_a_booking_that_the_agent_forgot_was_never_told(self):
        line = self.sellers()
        line.sell(1, 1, 0, 1)
        line.cut(1)
        line.sell(1, 1, 3, 4)
        line.calm(60)
        self.assertEqual(line.seen(1), [(1, 1, 3, 4)])

    def test_a_cut_of_the_agent_leaves_what_was_told(self):
        line = self.sellers()
        line.sell(1, 1, 0, 1)
        line.pass_on(1)
        line.cancel(1, 1)
        line.cut(1)
        line.calm(60)
        self.assertEqual(line.seen(1), [(1, 1, 0, 1)])
        self.assertEqual(line.book(1), [(1, 1, 0, 1)])


class Flying(unittest.TestCase):
    def test_empty(self):
        line = Line(1, 2, 2, [3])
        self.assertEqual(line.look(22), [0, 0])
        line.give(1, 1, 0, 1, 1)
        self.assertEqual(line.look(22), [0, 0])

    def test_give(self):
        line = Line(2, 3, 2, [3, 9])
        line.give(2, 2, 1, 3, 7)
        line.ask(1, 1, 0, 2, 3)
        line.pass_on(1)
        line.sync(0)
        self.assertEqual(
            line.look(22),
            [0, 3]
            + [0, 1, 1, 6, 1, 1, 1, 0, 2, 3]
            + [0, 1, 1, 0]
            + [0, 2, 1, 6, 1, 0, 2, 1, 3, 7],
        )

    def test_no_and_word(self):
        line = Line(1, 3, 1, [3])
        line.ask(1, 1, 0, 1, 1)
        line.ask(1, 1, 0, 1, 9)
        line.pass_on(1)
        line.sync(0)
        self.assertEqual(
            line.look(22),
            [0, 3] + [0, 1, 1, 6, 1, 1, 1, 0, 1, 1] + [0, 1, 2, 2, 2, 2] + [0, 1, 2, 0],
        )

    def test_recall(self):
        line = Line(2, 3, 3, [3, 3])
        line.ask(2, 1, 0, 1, 9)
        line.ask(2, 2, 1, 3, 4)
        line.pass_on(2)
        line.sync(0)
        self.assertEqual(
            line.look(22),
            [0, 5]
            + [0, 1, 1, 6, 3, 1, 1, 0, 1, 9]
            + [0, 1, 2, 6, 3, 2, 2, 1, 3, 4]
            + [0, 2, 2, 0]
            + [0, 3, 1, 6, 3, 1, 1, 0, 1, 9]
            + [0, 3, 2, 6, 3, 2, 2, 1, 3, 4],
        )

    def test_back(self):
        line = Line(1, 4, 2, [5])
        line.give(1, 1, 0, 4, 4)
        line.calm(60)
        line.sell(1, 1, 1, 2)
        line.back(1, 1, 2, 4, 3)
        line.calm(60)
        line.ask(2, 1, 0, 4, 5)
        line.pass_on(2)
        line.pass_on(0)
        line.back(1, 1, 0, 4, 1)
        line.sync(1)
        self.assertEqual(
            line.look(22),
            [0, 2] + [1, 0, 3, 8, 4, 1, 1, 0, 4, 3, 1, 1] + [1, 0, 2, 0],
        )
        line = Line(1, 4, 2, [5])
        line.give(1, 1, 0, 4, 4)
        line.pass_on(0)
        line.back(1, 1, 1, 4, 2)
        line.sync(1)
        self.assertEqual(line.look(22), [0, 2] + [1, 0, 1, 7, 4, 0, 1, 1, 2, 2, 2] + [1, 0, 1, 0])

    def test_a_back_with_nothing(self):
        line = Line(1, 3, 2, [0])
        line.ask(1, 1, 0, 3, 2)
        line.pass_on(1)
        line.pass_on(0)
        line.sync(2)
        self.assertEqual(line.look(22), [0, 2] + [2, 0, 1, 7, 4, 1, 1, 0, 0, 0, 0] + [2, 0, 1, 0])

    def test_ask_and_unask(self):
        line = Line(2, 3, 2, [3, 3])
        line.ask(2, 2, 0, 3, 30)
        line.ask(2, 1, 1, 2, 1)
        line.unask(2, 1)
        line.sync(2)
        self.assertEqual(
            line.look(22),
            [0, 3] + [2, 0, 1, 6, 5, 1, 2, 0, 3, 30] + [2, 0, 2, 6, 5, 2, 1, 1, 2, 1] + [2, 0, 3, 2, 6, 1],
        )

    def test_sold_and_gone(self):
        line = Line(1, 3, 2, [3])
        line.give(1, 1, 0, 3, 3)
        line.calm(60)
        line.sell(1, 1, 0, 2)
        line.change(1, 1, 1, 1, 3)
        line.cancel(1, 2)
        line.sync(1)
        self.assertEqual(
            line.look(22),
            [0, 4]
            + [1, 0, 1, 5, 7, 1, 1, 0, 2]
            + [1, 0, 2, 5, 8, 1, 1, 0, 2]
            + [1, 0, 3, 5, 7, 2, 1, 1, 3]
            + [1, 0, 4, 5, 8, 2, 1, 1, 3],
        )

    def test_word_of_nothing(self):
        line = Line(1, 3, 1, [3])
        line.give(1, 1, 0, 3, 1)
        line.give(1, 1, 0, 3, 1)
        line.sync(0)
        line.deliver(2)
        line.sync(1)
        self.assertEqual(line.look(22), [0, 1] + [0, 1, 1, 6, 1, 0, 1, 0, 3, 1])

    def test_eighty_in_their_order(self):
        line = Line(1, 1, 2, [30])
        for turn in range(20):
            line.give(2, 1, 0, 1, 1)
        line.sync(0)
        for turn in range(5):
            line.again(0)
        parcels = line.flying()
        self.assertEqual(parcels, [(0, 2, number, (1, 0, 1, 0, 1, 1)) for number in range(1, 21)] * 4)
        line.deliver(1)
        line.lose(20)
        self.assertEqual(line.flying(), parcels[1:20] + parcels[21:])


class Owed(unittest.TestCase):
    def test_at_first(self):
        line = Line(1, 2, 3, [3])
        self.assertEqual(line.look(23, 0), [0] + [1, 1, 0] * 3)
        for agent in (1, 2, 3):
            self.assertEqual(line.look(23, agent), [0, 1, 1, 0])

    def test_both_sides_of_a_link(self):
        line = Line(1, 2, 3, [9])
        line.give(2, 1, 0, 2, 1)
        line.give(2, 1, 0, 2, 1)
        line.give(3, 1, 0, 2, 1)
        self.assertEqual(line.look(23, 0), [0, 1, 1, 0, 3, 1, 2, 2, 1, 1])
        line.sync(0)
        line.deliver(1)
        self.assertEqual(line.look(23, 0), [0, 1, 1, 0, 3, 1, 2, 2, 1, 1])
        self.assertEqual(line.look(23, 2), [0, 1, 2, 0])
        line.sell(2, 1, 0, 1)
        self.assertEqual(line.look(23, 2), [0, 2, 2, 1])
        line.sync(2)
        line.deliver(3)
        self.assertEqual(line.look(23, 0), [0, 1, 1, 0, 3, 2, 2, 2, 1, 1])
        line.deliver(3)
        self.assertEqual(line.look(23, 0), [0, 1, 1, 0, 3, 2, 1, 2, 1, 1])
        line.sync(0)
        line.deliver(3)
        self.assertEqual(line.look(23, 2), [0, 2, 2, 0])

    def test_behind_a_cut(self):
        line = Line(1, 2, 2, [9])
        line.give(1, 1, 0, 2, 1)
        line.sync(0)
        line.give(1, 1, 0, 2, 1)
        line.give(2, 1, 0, 2, 1)
        self.assertEqual(line.owed(0), [(3, 1, 2), (2, 1, 1)])
        line.deliver(1)
        line.cut(0)
        self.assertEqual(line.owed(0), [(2, 1, 1), (1, 1, 0)])
        self.assertEqual(line.owed(1), [(1, 2, 0)])
        line.cut(1)
        self.assertEqual(line.owed(1), [(1, 1, 0)])
        line.again(0)
        line.deliver(1)
        line.sync(1)
        line.cut(1)
        self.assertEqual(line.owed(1), [(1, 2, 0)])
        line.deliver(1)
        self.assertEqual(line.owed(0), [(2, 1, 0), (1, 1, 0)])
        line.cut(0)
        self.assertEqual(line.owed(0), [(2, 1, 1), (1, 1, 0)])


if __name__ == "__main__":
    unittest.main()
