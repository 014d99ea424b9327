"""Where the rights to the rooms of a kind are on one night."""

import unittest

from tests.helper import Line


class Cell(unittest.TestCase):
    def assert_cell(self, line, kind, night, house, agents):
        """The house's stock, bookings and rooms shut; each agent's stock, bookings and rights on their way."""
        numbers = line.cell(kind, night)
        self.assertEqual(numbers[:1] + numbers[2:], [0] + list(house) + sum([list(agent) for agent in agents], []))
        self.assertEqual(sum(numbers[2:]), numbers[1])


class AtNodes(Cell):
    def test_at_first(self):
        line = Line(2, 3, 2, [5, 0])
        self.assertEqual(line.cell(1, 0), [0, 5, 5, 0, 0, 0, 0, 0, 0, 0, 0])
        self.assertEqual(line.cell(1, 2), [0, 5, 5, 0, 0, 0, 0, 0, 0, 0, 0])
        self.assertEqual(line.cell(2, 0), [0, 0, 0, 0, 0, 0, 0, 0, 0, 0, 0])
        self.assertEqual(Line(1, 1, 5, [30]).cell(1, 0), [0, 30, 30] + [0] * 17)

    def test_bookings_of_the_house_hold_their_nights_alone(self):
        line = Line(2, 5, 1, [5, 5])
        line.sell(0, 1, 1, 3)
        line.sell(0, 1, 2, 4)
        line.sell(0, 2, 0, 5)
        for night, held in enumerate((0, 1, 2, 1, 0)):
            self.assert_cell(line, 1, night, (5 - held, held, 0), [(0, 0, 0)])
            self.assert_cell(line, 2, night, (4, 1, 0), [(0, 0, 0)])

    def test_rooms_shut_hold_their_nights_alone(self):
        line = Line(2, 5, 1, [9, 9])
        line.shut(1, 1, 3, 2)
        line.shut(1, 2, 4, 3)
        line.sell(0, 1, 2, 3)
        for night, (sold, shut) in enumerate(((0, 0), (0, 2), (1, 5), (0, 3), (0, 0))):
            self.assert_cell(line, 1, night, (9 - sold - shut, sold, shut), [(0, 0, 0)])
            self.assert_cell(line, 2, night, (9, 0, 0), [(0, 0, 0)])
        line.reopen(1)
        self.assert_cell(line, 1, 1, (9, 0, 0), [(0, 0, 0)])
        self.assert_cell(line, 1, 2, (5, 1, 3), [(0, 0, 0)])

    def test_bookings_of_agents(self):
        line = Line(1, 4, 2, [6])
        line.give(1, 1, 0, 4, 2)
        line.give(2, 1, 0, 4, 3)
        line.calm(60)
        line.sell(1, 1, 1, 3)
        line.sell(2, 1, 0, 2)
        line.sell(2, 1, 1, 2)
        self.assert_cell(line, 1, 0, (1, 0, 0), [(2, 0, 0), (2, 1, 0)])
        self.assert_cell(line, 1, 1, (1, 0, 0), [(1, 1, 0), (1, 2, 0)])
        self.assert_cell(line, 1, 2, (1, 0, 0), [(1, 1, 0), (3, 0, 0)])
        self.assert_cell(line, 1, 3, (1, 0, 0), [(2, 0, 0), (3, 0, 0)])
        line.cancel(2, 1)
        self.assert_cell(line, 1, 1, (1, 0, 0), [(1, 1, 0), (2, 1, 0)])
        line.change(1, 1, 1, 0, 1)
        self.assert_cell(line, 1, 0, (1, 0, 0), [(1, 1, 0), (3, 0, 0)])
        self.assert_cell(line, 1, 1, (1, 0, 0), [(2, 0, 0), (2, 1, 0)])

    def test_what_is_known_counts_not_what_is_written(self):
        line = Line(1, 1, 1, [6])
        line.sell(0, 1, 0, 1)
        line.shut(1, 0, 1, 2)
        self.assert_cell(line, 1, 0, (3, 1, 2), [(0, 0, 0)])
        line.cut(0)
        self.assert_cell(line, 1, 0, (6, 0, 0), [(0, 0, 0)])


class Gives(Cell):
    def sent(self):
        """Three rooms are given to agent 1 for the nights 1 and 2; nothing is written yet."""
        line = Line(2, 4, 2, [5, 5])
        line.give(1, 1, 1, 3, 3)
        return line

    def assert_on_the_way(self, line):
        for night, rights in enumerate((0, 3, 3, 0)):
            self.assert_cell(line, 1, night, (5 - rights, 0, 0), [(0, 0, rights), (0, 0, 0)])
            self.assert_cell(line, 2, night, (5, 0, 0), [(0, 0, 0), (0, 0, 0)])

    def assert_taken(self, line):
        for night, rights in enumerate((0, 3, 3, 0)):
            self.assert_cell(line, 1, night, (5 - rights, 0, 0), [(rights, 0, 0), (0, 0, 0)])

    def assert_with_the_house(self, line):
        for night in range(4):
            self.assert_cell(line, 1, night, (5, 0, 0), [(0, 0, 0), (0, 0, 0)])

    def test_from_sending_to_word(self):
        line = self.sent()
        self.assert_on_the_way(line)
        line.sync(0)
        self.assertEqual(len(line.flying()), 1)
        self.assert_on_the_way(line)
        line.deliver(1)
        self.assertEqual(line.owed(0)[0], (2, 1, 1))
        self.assert_taken(line)
        line.sync(1)
        self.assert_taken(line)
        line.deliver(1)
        self.assertEqual(line.owed(0)[0], (2, 1, 0))
        self.assert_taken(line)
        line.sync(0)
        self.assert_taken(line)

    def test_lost_and_sent_again(self):
        line = self.sent()
        line.sync(0)
        line.lose(1)
        self.assert_on_the_way(line)
        line.again(0)
        line.again(0)
        self.assert_on_the_way(line)
        line.deliver(2)
        self.assert_taken(line)

    def test_doubled(self):
        line = self.sent()
        line.sync(0)
        line.double(1)
        line.double(1)
        self.assert_on_the_way(line)
        line.deliver(2)
        self.assert_taken(line)
        line.deliver(1)
        line.deliver(1)
        self.assert_taken(line)

    def test_the_house_is_cut(self):
        line = self.sent()
        line.cut(0)
        self.assert_with_the_house(line)
        line.give(1, 1, 1, 3, 3)
        line.sync(0)
        line.cut(0)
        self.assert_on_the_way(line)
        line.deliver(1)
        line.cut(0)
        self.assert_taken(line)
        line.sync(1)
        line.deliver(1)
        self.assert_taken(line)
        line.cut(0)
        self.assertEqual(line.owed(0)[0], (2, 1, 1))
        self.assert_taken(line)

    def test_the_agent_is_cut(self):
        line = self.sent()
        line.cut(1)
        self.assert_on_the_way(line)
        line.sync(0)
        line.deliver(1)
        self.assert_taken(line)
        line.cut(1)
        self.assert_on_the_way(line)
        line.again(0)
        line.deliver(1)
        line.sync(1)
        line.cut(1)
        self.assert_taken(line)
        line.deliver(1)
        line.cut(1)
        self.assert_taken(line)

    def test_several_that_were_turned_round(self):
        line = Line(1, 2, 2, [9])
        line.give(1, 1, 0, 2, 1)
        line.give(1, 1, 1, 2, 2)
        line.give(2, 1, 0, 2, 4)
        line.sync(0)
        self.assert_cell(line, 1, 0, (4, 0, 0), [(0, 0, 1), (0, 0, 4)])
        self.assert_cell(line, 1, 1, (2, 0, 0), [(0, 0, 3), (0, 0, 4)])
        line.deliver(2)
        self.assert_cell(line, 1, 1, (2, 0, 0), [(0, 0, 3), (0, 0, 4)])
        line.deliver(1)
        self.assert_cell(line, 1, 1, (2, 0, 0), [(1, 0, 2), (0, 0, 4)])
        line.deliver(1)
        self.assert_cell(line, 1, 1, (2, 0, 0), [(1, 0, 2), (4, 0, 0)])
        line.again(0)
        line.deliver(2)
        self.assert_cell(line, 1, 1, (2, 0, 0), [(3, 0, 0), (4, 0, 0)])

    def test_for_an_ask(self):
        line = Line(1, 2, 2, [9])
        line.ask(2, 1, 0, 1, 7)
        self.assert_cell(line, 1, 0, (9, 0, 0), [(0, 0, 0), (0, 0, 0)])
        line.pass_on(2)
        self.assert_cell(line, 1, 0, (2, 0, 0), [(0, 0, 0), (0, 0, 7)])
        self.assert_cell(line, 1, 1, (9, 0, 0), [(0, 0, 0), (0, 0, 0)])
        line.pass_on(0)
        self.assert_cell(line, 1, 0, (2, 0, 0), [(0, 0, 0), (7, 0, 0)])

    def test_no_other_message_carries_rights(self):
        line = Line(1, 2, 2, [2])
        line.give(2, 1, 0, 2, 2)
        line.calm(60)
        line.sell(2, 1, 0, 1)
        line.sell(2, 1, 0, 1)
        line.cancel(2, 1)
        line.ask(1, 1, 0, 2, 1)
        line.ask(1, 1, 0, 2, 2)
        line.unask(1, 2)
        line.pass_on(1)
        self.assert_cell(line, 1, 0, (0, 0, 0), [(0, 0, 0), (1, 1, 0)])
        self.assert_cell(line, 1, 1, (0, 0, 0), [(0, 0, 0), (2, 0, 0)])


class Backs(Cell):
    def recalled(self):
        """Agent 1's unused rooms of night 0 to 2, 3 at most each, are on their way back; nothing is written yet."""
        line = Line(2, 4, 2, [4, 4])
        line.give(1, 1, 0, 4, 4)
        line.calm(60)
        for turn in range(2):
            line.sell(1, 1, 1, 2)
        for turn in range(4):
            line.sell(1, 1, 2, 3)
        line.calm(60)
        line.ask(2, 1, 0, 3, 3)
        line.pass_on(2)
        line.pass_on(0)
        return line

    def assert_cells(self, line, house, agent, way):
        for night, sold in enumerate((0, 2, 4, 0)):
            self.assert_cell(line, 1, night, (house[night], 0, 0), [(agent[night], sold, way[night]), (0, 0, 0)])
            self.assert_cell(line, 2, night, (4, 0, 0), [(0, 0, 0), (0, 0, 0)])

    def assert_on_the_way(self, line):
        self.assert_cells(line, (0, 0, 0, 0), (1, 0, 0, 4), (3, 2, 0, 0))

    def assert_taken(self, line):
        self.assert_cells(line, (3, 2, 0, 0), (1, 0, 0, 4), (0, 0, 0, 0))

    def assert_with_the_agent(self, line):
        self.assert_cells(line, (0, 0, 0, 0), (4, 2, 0, 4), (0, 0, 0, 0))

    def test_from_sending_to_word(self):
        line = self.recalled()
        self.assert_on_the_way(line)
        line.sync(1)
        self.assertEqual(line.flying(), [(1, 0, 7, (4, 1, 1, 0, 3, 2, 0)), (1, 0, 2, ())])
        self.assert_on_the_way(line)
        line.deliver(1)
        self.assertEqual(line.owed(1), [(8, 3, 1)])
        self.assert_taken(line)
        line.sync(0)
        line.deliver_all()
        self.assertEqual(line.owed(1), [(8, 3, 0)])
        self.assert_taken(line)

    def test_lost_doubled_and_sent_again(self):
        line = self.recalled()
        line.sync(1)
        line.double(1)
        self.assert_on_the_way(line)
        line.lose(1)
        self.assert_on_the_way(line)
        line.lose(2)
        self.assert_on_the_way(line)
        line.again(1)
        line.double(2)
        line.deliver(2)
        self.assert_taken(line)
        line.deliver(2)
        self.assert_taken(line)

    def test_the_agent_is_cut(self):
        line = self.recalled()
        line.cut(1)
        self.assert_with_the_agent(line)
        line.again(0)
        line.deliver_all()
        self.assert_on_the_way(line)
        line.sync(1)
        line.cut(1)
        self.assert_on_the_way(line)
        line.deliver(1)
        line.cut(1)
        self.assert_taken(line)

    def test_the_house_is_cut(self):
        line = self.recalled()
        line.cut(0)
        self.assert_on_the_way(line)
        line.sync(1)
        line.deliver(1)
        self.assert_taken(line)
        line.cut(0)
        self.assert_on_the_way(line)
        line.again(1)
        line.deliver(2)
        line.sync(0)
        line.cut(0)
        self.assert_taken(line)
        line.deliver_all()
        line.cut(1)
        self.assertEqual(line.owed(1), [(8, 3, 1)])
        self.assert_taken(line)

    def test_unasked(self):
        line = Line(1, 4, 2, [4])
        line.give(1, 1, 0, 4, 4)
        line.calm(60)
        line.back(1, 1, 1, 3, 2)
        for night, rights in enumerate((0, 2, 2, 0)):
            self.assert_cell(line, 1, night, (0, 0, 0), [(4 - rights, 0, rights), (0, 0, 0)])
        line.pass_on(1)
        for night, rights in enumerate((0, 2, 2, 0)):
            self.assert_cell(line, 1, night, (rights, 0, 0), [(4 - rights, 0, 0), (0, 0, 0)])

    def test_rights_on_both_ways_are_told_together(self):
        line = Line(1, 3, 2, [9])
        line.give(1, 1, 0, 3, 4)
        line.give(2, 1, 0, 3, 1)
        line.calm(60)
        line.back(1, 1, 0, 2, 2)
        line.back(1, 1, 1, 3, 1)
        line.give(1, 1, 1, 2, 3)
        line.give(2, 1, 0, 1, 1)
        self.assert_cell(line, 1, 0, (3, 0, 0), [(2, 0, 2), (1, 0, 1)])
        self.assert_cell(line, 1, 1, (1, 0, 0), [(1, 0, 6), (1, 0, 0)])
        self.assert_cell(line, 1, 2, (4, 0, 0), [(3, 0, 1), (1, 0, 0)])
        line.pass_on(1)
        self.assert_cell(line, 1, 1, (4, 0, 0), [(1, 0, 3), (1, 0, 0)])
        line.pass_on(0)
        self.assert_cell(line, 1, 1, (4, 0, 0), [(4, 0, 0), (1, 0, 0)])


if __name__ == "__main__":
    unittest.main()
