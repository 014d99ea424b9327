"""Rounds, and when it is quiet."""

import unittest

from tests.helper import CALM, Line, full_line


def given():
    """A give has come, and word of it too; the same word, doubled, is still under way."""
    line = Line(1, 2, 2, [9])
    line.give(1, 1, 0, 2, 3)
    line.sync(0)
    line.deliver(1)
    line.sync(1)
    line.double(1)
    line.deliver(1)
    return line


class Quiet(unittest.TestCase):
    def assert_quiet(self, line):
        self.assertEqual(line.quiet(), [0, 1])

    def assert_not_quiet(self, line):
        self.assertEqual(line.quiet(), [0, 0])

    def test_at_first(self):
        self.assert_quiet(Line(1, 1, 1, [0]))
        self.assert_quiet(Line(4, 21, 5, [30, 30, 30, 30]))

    def test_not_with_a_message_under_way(self):
        line = given()
        line.sync(0)
        self.assertEqual(line.flying(), [(1, 0, 1, ())])
        self.assert_not_quiet(line)
        line.lose(1)
        self.assert_quiet(line)

    def test_not_when_a_node_knows_more_than_its_disk(self):
        line = Line(2, 3, 2, [3, 3])
        line.sell(0, 1, 0, 1)
        self.assert_not_quiet(line)
        line.sync(1)
        line.sync(2)
        self.assert_not_quiet(line)
        line.sync(0)
        self.assert_quiet(line)
        line.shut(1, 0, 1, 1)
        self.assert_not_quiet(line)
        line.sync(0)
        self.assert_quiet(line)
        line.reopen(2)
        self.assert_not_quiet(line)
        line.sync(0)
        self.assert_quiet(line)
        line.change(0, 1, 1, 0, 1)
        self.assert_not_quiet(line)
        line.cut(0)
        self.assert_quiet(line)
        line.cancel(0, 1)
        self.assert_not_quiet(line)
        line.sync(0)
        self.assert_quiet(line)

    def test_not_when_only_a_number_is_used_up(self):
        line = Line(1, 1, 1, [3])
        line.sell(0, 1, 0, 1)
        line.cancel(0, 1)
        self.assert_not_quiet(line)
        line.sync(0)
        self.assert_quiet(line)
        self.assertEqual(line.shut(1, 0, 1, 1), [0, 2])
        line.reopen(2)
        self.assert_not_quiet(line)
        line.cut(0)
        self.assert_quiet(line)

    def test_not_when_the_house_has_not_written_what_has_come(self):
        line = given()
        line.lose(1)
        self.assertEqual(line.owed(0), [(2, 1, 0), (1, 1, 0)])
        self.assert_not_quiet(line)
        line.sync(0)
        self.assertEqual(line.flying(), [])
        self.assert_quiet(line)

    def test_not_when_an_agent_has_not_written_what_has_come(self):
        line = given()
        line.lose(1)
        line.sell(1, 1, 0, 1)
        line.sync(1)
        line.deliver(1)
        line.sync(0)
        line.deliver(1)
        self.assertEqual(line.owed(1), [(2, 2, 0)])
        self.assert_not_quiet(line)
        line.sync(1)
        self.assertEqual(line.flying(), [])
        self.assert_quiet(line)

    def test_not_when_word_is_owed(self):
        line = Line(1, 2, 1, [9])
        line.give(1, 1, 0, 2, 3)
        line.sync(0)
        line.double(1)
        line.deliver(1)
        line.sync(1)
        line.deliver(2)
        line.sync(0)
        self.assert_not_quiet(line)
        line.deliver(1)
        self.assertEqual(line.flying(), [])
        self.assertEqual(line.owed(0) + line.owed(1), [(2, 1, 0), (1, 2, 0)])
        self.assert_not_quiet(line)
        line.sync(1)
        self.assertEqual(line.flying(), [(1, 0, 1, ())])
        self.assert_not_quiet(line)
        line.deliver(1)
        self.assert_quiet(line)

    def test_not_when_a_message_of_the_house_is_not_known_to_have_come(self):
        line = Line(1, 2, 2, [9])
        line.give(2, 1, 0, 2, 3)
        line.sync(0)
        line.lose(1)
        self.assertEqual(line.flying(), [])
        self.assert_not_quiet(line)
        line.cut(0)
        self.assert_not_quiet(line)
        self.assertEqual(line.calm(60), [0, 1])
        self.assert_quiet(line)

    def test_not_when_a_message_of_an_agent_is_not_known_to_have_come(self):
        line = Line(1, 2, 2, [9])
        line.give(2, 1, 0, 2, 3)
        line.calm(60)
        self.assert_quiet(line)
        line.back(2, 1, 0, 1, 1)
        line.sync(2)
        line.lose(1)
        self.assertEqual(line.flying(), [])
        self.assert_not_quiet(line)
        line.calm(60)
        self.assert_quiet(line)

    def test_not_when_a_message_came_and_was_not_known_to_have_come(self):
        line = Line(1, 2, 2, [9])
        line.give(2, 1, 0, 2, 3)
        line.pass_on(0)
        line.sync(2)
        line.lose(1)
        self.assertEqual(line.flying(), [])
        self.assert_not_quiet(line)

    def test_not_as_long_as_an_ask_waits(self):
        line = Line(1, 1, 2, [1])
        line.ask(1, 1, 0, 1, 2)
        self.assert_not_quiet(line)
        line.pass_on(1)
        self.assertEqual(len(line.waits()), 1)
        self.assert_not_quiet(line)
        line.pass_on(0)
        self.assertEqual((line.waits()[0][-1], line.asks(1)[0][-1]), (1, 0))
        self.assert_not_quiet(line)
        line.sync(2)
        line.sync(1)
        self.assert_not_quiet(line)
        line.calm(60)
        self.assertEqual((line.waits(), line.asks(1)[0][-1]), ([], 2))
        self.assert_quiet(line)

    def test_not_as_long_as_an_ask_waits_that_never_left_its_agent(self):
        line = Line(1, 1, 2, [1])
        line.ask(1, 1, 0, 1, 1)
        line.cut(1)
        self.assert_quiet(line)
        line.ask(1, 1, 0, 1, 1)
        line.sync(1)
        line.lose(1)
        self.assert_not_quiet(line)


class Calm(unittest.TestCase):
    def test_already_quiet(self):
        line = Line(1, 2, 2, [3])
        line.give(1, 1, 0, 2, 2)
        line.calm(60)
        line.sell(1, 1, 0, 1)
        line.calm(60)
        before = line.everything()
        for rounds in (1, 2, 60):
            self.assertEqual(line.calm(rounds), [0, 1])
            self.assertEqual(line.everything(), before)
        self.assertEqual(Line(1, 1, 1, [0]).calm(1), [0, 1])

    def test_how_many_rounds_it_takes(self):
        line = Line(1, 2, 1, [3])
        line.sell(0, 1, 0, 1)
        self.assertEqual(line.look(CALM, 1), [0, 1])
        line.give(1, 1, 0, 2, 1)
        # The give comes in the first round, word of it in the second; in the third the house writes that it came.
        self.assertEqual(line.look(CALM, 1), [0, 0])
        self.assertEqual(line.look(CALM, 2), [0, 0])
        self.assertEqual(line.look(CALM, 3), [0, 1])
        self.assertEqual(line.look(CALM, 4), [0, 1])

    def test_round_by_round(self):
        line = Line(1, 2, 1, [3])
        line.give(1, 1, 0, 2, 1)
        self.assertEqual(line.calm(1), [0, 0])
        self.assertEqual((line.stocks(1, 1, 2), line.owed(0), line.owed(1)), ([1, 1], [(2, 1, 1)], [(1, 2, 0)]))
        self.assertEqual(line.flying(), [])
        self.assertEqual(line.calm(1), [0, 0])
        self.assertEqual((line.owed(0), line.owed(1)), ([(2, 1, 0)], [(1, 2, 0)]))
        self.assertEqual(line.calm(1), [0, 1])
        self.assertEqual(line.quiet(), [0, 1])

    def test_what_comes_is_answered_in_the_next_round(self):
        line = Line(1, 1, 2, [1])
        line.give(2, 1, 0, 1, 1)
        line.calm(60)
        line.ask(1, 1, 0, 1, 1)
        self.assertEqual(line.calm(1), [0, 0])
        self.assertEqual(line.waits(), [(1, 1, 1, 0, 1, 1, 1, 1)])
        self.assertEqual(line.stock(2, 1, 0), 1)
        self.assertEqual(line.calm(1), [0, 0])
        self.assertEqual(line.stock(2, 1, 0), 0)
        self.assertEqual(line.waits(), [(1, 1, 1, 0, 1, 1, 1, 1)])
        self.assertEqual(line.calm(1), [0, 0])
        self.assertEqual(line.waits(), [])
        self.assertEqual(line.asks(1), [(1, 1, 0, 1, 1, 0)])
        self.assertEqual(line.calm(1), [0, 0])
        self.assertEqual(line.asks(1), [(1, 1, 0, 1, 1, 1)])

    def test_all_write_ahead_of_all_that_is_sent_again(self):
        line = Line(1, 1, 2, [1])
        line.sell(0, 1, 0, 1)
        line.ask(1, 1, 0, 1, 1)
        line.sync(1)
        line.lose(1)
        line.ask(2, 1, 0, 1, 1)
        line.calm(1)
        self.assertEqual([wait[0] for wait in line.waits()], [2, 1])

    def test_nodes_write_by_their_numbers_and_send_again_by_their_numbers(self):
        line = Line(1, 1, 3, [1])
        line.sell(0, 1, 0, 1)
        line.calm(60)
        for agent in (3, 1, 2):
            line.ask(agent, 1, 0, 1, 1)
        lost = line.copied()
        line.calm(1)
        self.assertEqual([wait[0] for wait in line.waits()], [1, 2, 3])
        for agent in (3, 1, 2):
            lost.sync(agent)
            lost.lose(1)
        lost.calm(1)
        self.assertEqual([wait[0] for wait in lost.waits()], [1, 2, 3])

    def test_what_was_under_way_comes_ahead_of_what_is_written(self):
        line = Line(1, 1, 2, [1])
        line.sell(0, 1, 0, 1)
        line.ask(2, 1, 0, 1, 1)
        line.sync(2)
        line.ask(1, 1, 0, 1, 1)
        line.calm(1)
        self.assertEqual([wait[0] for wait in line.waits()], [2, 1])

    def test_what_a_node_knows_is_written_at_the_rounds_beginning(self):
        line = Line(1, 1, 1, [5])
        line.sell(0, 1, 0, 1)
        line.give(1, 1, 0, 1, 2)
        line.calm(1)
        self.assertEqual(line.kept(0), [(1, 1, 0, 1)])
        self.assertEqual(line.stock(1, 1, 0), 2)
        line.cut(1)
        self.assertEqual(line.stock(1, 1, 0), 0)

    def test_rounds_are_those_made_by_hand(self):
        for rounds in range(1, 9):
            line = Line(2, 3, 3, [4, 2])
            line.give(2, 1, 0, 3, 2)
            line.give(3, 1, 0, 2, 1)
            line.pass_on(0)
            line.sell(2, 1, 0, 2)
            line.sync(2)
            line.double(1)
            line.lose(1)
            line.ask(1, 1, 0, 2, 3)
            line.ask(1, 2, 1, 3, 3)
            line.ask(3, 1, 1, 2, 1)
            line.sync(1)
            line.lose(2)
            line.sell(0, 2, 0, 1)
            by_hand = line.copied()
            line.calm(rounds)
            for turn in range(rounds):
                if by_hand.quiet() == [0, 0]:
                    by_hand.settle(3, 1)
            self.assertEqual(line.everything(), by_hand.everything(), rounds)

    def test_no_more_rounds_than_told(self):
        line = full_line()
        line.calm(1)
        one = line.everything()
        line.calm(1)
        two = line.everything()
        self.assertNotEqual(one, two)
        other = full_line()
        other.calm(2)
        self.assertEqual(other.everything(), two)


class CalmOnAFullNet(unittest.TestCase):
    def test_what_is_written_finds_no_room(self):
        line = full_line()
        line.ask(2, 1, 0, 1, 1)
        self.assertEqual(line.calm(1), [0, 0])
        self.assertEqual(line.flying(), [])
        self.assertEqual(line.stocks(1, 1, 2), [20, 20])
        self.assertEqual(line.owed(1), [(1, 41, 0)])
        self.assertEqual(line.waits(), [])
        self.assertEqual(line.asks(2), [(1, 1, 0, 1, 1, 0)])
        self.assertEqual(line.owed(2), [(2, 1, 1)])
        self.assertEqual(line.owed(0), [(41, 1, 40), (1, 1, 0)])

    def test_what_is_written_first_gets_the_room_that_is_left(self):
        line = full_line()
        line.lose(80)
        line.ask(1, 1, 0, 1, 30)
        line.ask(2, 1, 0, 1, 1)
        line.calm(1)
        self.assertEqual([wait[0] for wait in line.waits()], [1])

    def test_what_is_sent_again_finds_no_room_ahead_of_what_is_written(self):
        line = full_line()
        line.lose(80)
        line.ask(2, 1, 0, 1, 1)
        line.calm(1)
        self.assertEqual(line.owed(0), [(41, 1, 40), (2, 2, 1)])

    def test_the_house_writes_ahead_of_the_agents(self):
        line = full_line()
        line.lose(80)
        line.ask(1, 1, 0, 1, 1)
        line.give(2, 1, 0, 1, 1)
        line.calm(1)
        self.assertEqual(line.stock(2, 1, 0), 1)
        self.assertEqual(line.owed(0), [(41, 1, 40), (2, 1, 1)])

    def test_the_house_sends_again_ahead_of_the_agents(self):
        line = full_line()
        line.ask(2, 1, 0, 1, 1)
        line.sync(2)
        for turn in range(3):
            line.lose(80 - turn)
        line.calm(1)
        self.assertEqual(line.owed(0), [(41, 1, 40), (1, 1, 0)])

    def test_it_becomes_quiet_all_the_same(self):
        line = full_line()
        line.ask(2, 1, 0, 1, 1)
        self.assertEqual(line.calm(60), [0, 1])
        self.assertEqual(line.stocks(0, 1, 2), [9, 10])
        self.assertEqual(line.stocks(1, 1, 2), [20, 20])
        self.assertEqual(line.stocks(2, 1, 2), [1, 0])
        self.assertEqual(line.asks(2), [(1, 1, 0, 1, 1, 1)])

    def test_more_messages_than_the_net_holds(self):
        line = Line(1, 1, 1, [30])
        line.give(1, 1, 0, 1, 30)
        line.calm(60)
        line.sell(1, 1, 0, 1)
        for number in range(1, 101):
            line.change(1, number, 1, 0, 1)
        self.assertEqual(line.calm(1), [0, 0])
        self.assertEqual(line.owed(0), [(2, 81, 0)])
        self.assertEqual(line.calm(60), [0, 1])
        self.assertEqual(line.owed(0), [(2, 202, 0)])
        self.assertEqual(line.seen(1), [(101, 1, 0, 1)])


if __name__ == "__main__":
    unittest.main()
