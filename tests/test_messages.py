"""Messages: what goes on the net, what comes of it, and what a cut forgets."""

import unittest

from tests.helper import Line, full_line


def two_gives():
    """Two gives to agent 1 under way: one room for night 0, then one for night 1."""
    line = Line(1, 3, 2, [9])
    line.give(1, 1, 0, 1, 1)
    line.give(1, 1, 1, 2, 1)
    line.sync(0)
    return line


class Order(unittest.TestCase):
    def test_in_the_order_sent(self):
        line = two_gives()
        line.deliver(1)
        self.assertEqual(line.stocks(1, 1, 3), [1, 0, 0])
        line.deliver(1)
        self.assertEqual(line.stocks(1, 1, 3), [1, 1, 0])

    def test_a_greater_number_does_nothing(self):
        line = two_gives()
        line.deliver(2)
        self.assertEqual(line.stocks(1, 1, 3), [0, 0, 0])
        line.sync(1)
        self.assertEqual(line.under_way(), 1)
        line.deliver(1)
        self.assertEqual(line.stocks(1, 1, 3), [1, 0, 0])
        self.assertEqual(line.deliver(1), [-5])

    def test_one_that_came_too_early_is_taken_when_it_comes_again(self):
        line = two_gives()
        line.deliver(2)
        line.deliver(1)
        line.again(0)
        line.deliver(2)
        self.assertEqual(line.stocks(1, 1, 3), [1, 1, 0])

    def test_a_lesser_number_only_makes_word_owed(self):
        line = two_gives()
        line.deliver_all()
        line.sync(1)
        line.deliver_all()
        line.cut(0)
        line.again(0)
        self.assertEqual(line.under_way(), 2)
        line.deliver(1)
        self.assertEqual(line.stocks(1, 1, 3), [1, 1, 0])
        line.deliver(1)
        self.assertEqual(line.stocks(1, 1, 3), [1, 1, 0])
        line.sync(1)
        self.assertEqual(line.under_way(), 1)
        line.deliver(1)
        line.sync(0)
        self.assertEqual(line.again(0), [0, 0])

    def test_once_however_often_it_comes(self):
        line = two_gives()
        for turn in range(3):
            line.again(0)
        self.assertEqual(line.under_way(), 8)
        line.deliver_all()
        self.assertEqual(line.stocks(1, 1, 3), [1, 1, 0])

    def test_links_do_not_wait_for_one_another(self):
        line = Line(1, 3, 3, [9])
        line.give(3, 1, 0, 1, 1)
        line.give(1, 1, 0, 1, 2)
        line.give(2, 1, 0, 1, 3)
        line.sync(0)
        line.deliver(3)
        self.assertEqual([line.stock(agent, 1, 0) for agent in (1, 2, 3)], [0, 0, 1])
        line.deliver(1)
        self.assertEqual([line.stock(agent, 1, 0) for agent in (1, 2, 3)], [2, 0, 1])
        line.deliver(1)
        self.assertEqual([line.stock(agent, 1, 0) for agent in (1, 2, 3)], [2, 3, 1])

    def test_the_house_takes_messages_in_order_too(self):
        line = Line(1, 3, 1, [9])
        line.give(1, 1, 0, 3, 9)
        line.pass_on(0)
        line.pass_on(1)
        line.back(1, 1, 0, 1, 1)
        line.back(1, 1, 1, 2, 2)
        line.sync(1)
        line.deliver(2)
        self.assertEqual(line.stocks(0, 1, 3), [0, 0, 0])
        line.deliver(1)
        self.assertEqual(line.stocks(0, 1, 3), [1, 0, 0])
        line.again(1)
        line.deliver(1)
        self.assertEqual(line.stocks(0, 1, 3), [1, 0, 0])
        line.deliver(1)
        self.assertEqual(line.stocks(0, 1, 3), [1, 2, 0])


class Writing(unittest.TestCase):
    def test_nothing_is_under_way_before_it_is_written(self):
        line = Line(1, 3, 2, [9])
        line.give(1, 1, 0, 1, 1)
        line.ask(2, 1, 0, 1, 1)
        self.assertEqual(line.under_way(), 0)
        line.sync(1)
        self.assertEqual(line.under_way(), 0)
        line.sync(0)
        self.assertEqual(line.under_way(), 1)
        line.sync(2)
        self.assertEqual(line.under_way(), 2)

    def test_a_message_that_was_on_the_disk_is_not_put_on_the_net_by_another_writing(self):
        line = two_gives()
        line.sync(0)
        self.assertEqual(line.under_way(), 2)
        line.give(1, 1, 2, 3, 1)
        line.sync(0)
        self.assertEqual(line.under_way(), 3)
        line.sell(0, 1, 0, 1)
        line.sync(0)
        self.assertEqual(line.under_way(), 3)

    def test_by_agents_and_by_numbers(self):
        line = Line(1, 3, 3, [9])
        line.give(3, 1, 0, 1, 1)
        line.give(1, 1, 0, 1, 2)
        line.give(3, 1, 0, 1, 4)
        line.give(1, 1, 0, 1, 1)
        line.sync(0)
        seen = []
        for turn in range(4):
            line.deliver(1)
            seen.append((line.stock(1, 1, 0), line.stock(3, 1, 0)))
        self.assertEqual(seen, [(2, 0), (3, 0), (3, 1), (3, 5)])

    def test_again_goes_by_agents_and_by_numbers(self):
        line = Line(1, 3, 3, [9])
        line.give(3, 1, 0, 1, 1)
        line.give(1, 1, 0, 1, 2)
        line.give(3, 1, 0, 1, 4)
        line.sync(0)
        line.cut(1)
        line.cut(3)
        self.assertEqual(line.again(0), [0, 3])
        seen = []
        for turn in range(3):
            line.deliver(4)
            seen.append((line.stock(1, 1, 0), line.stock(3, 1, 0)))
        self.assertEqual(seen, [(2, 0), (2, 1), (2, 5)])

    def test_word_goes_behind_the_links_messages(self):
        line = Line(1, 3, 2, [9])
        line.ask(1, 1, 0, 1, 1)
        line.ask(2, 1, 0, 1, 2)
        line.sync(1)
        line.sync(2)
        line.deliver_all()
        line.sync(0)
        self.assertEqual(line.under_way(), 4)
        line.deliver(1)
        self.assertEqual((line.stock(1, 1, 0), line.unsure(1)), (1, 1))
        line.deliver(1)
        line.sync(1)
        self.assertEqual(line.unsure(1), 0)
        line.deliver(1)
        self.assertEqual((line.stock(2, 1, 0), line.unsure(2)), (2, 1))
        line.deliver(1)
        line.sync(2)
        self.assertEqual(line.unsure(2), 0)


class Words(unittest.TestCase):
    def test_word_is_owed_once_for_all_that_came(self):
        line = two_gives()
        line.deliver_all()
        line.sync(1)
        self.assertEqual(line.under_way(), 1)
        line.sync(1)
        self.assertEqual(line.under_way(), 1)
        line.deliver(1)
        line.sync(0)
        self.assertEqual(line.again(0), [0, 0])

    def test_word_of_some_leaves_the_others(self):
        line = two_gives()
        line.deliver(1)
        line.sync(1)
        self.assertEqual(line.under_way(), 2)
        line.deliver(2)
        line.sync(0)
        self.assertEqual(line.again(0), [0, 1])
        self.assertEqual(line.under_way(), 2)
        line.deliver(2)
        self.assertEqual(line.stocks(1, 1, 3), [1, 1, 0])

    def test_an_older_word_behind_a_newer_one_changes_nothing(self):
        line = two_gives()
        line.deliver(1)
        line.sync(1)
        line.deliver(1)
        line.sync(1)
        self.assertEqual(line.under_way(), 2)
        line.deliver(2)
        line.sync(0)
        self.assertEqual(line.again(0), [0, 0])
        line.deliver(1)
        line.sync(0)
        self.assertEqual(line.again(0), [0, 0])

    def test_word_itself_makes_no_word_owed(self):
        line = two_gives()
        line.deliver_all()
        line.pass_on(1)
        line.sync(0)
        line.sync(1)
        self.assertEqual(line.under_way(), 0)

    def test_word_of_one_agent_strikes_nothing_of_another(self):
        line = Line(1, 3, 2, [9])
        line.give(1, 1, 0, 1, 1)
        line.give(2, 1, 0, 1, 1)
        line.sync(0)
        line.deliver(2)
        line.sync(2)
        line.deliver(2)
        line.sync(0)
        self.assertEqual(line.again(0), [0, 1])
        line.deliver_all()
        self.assertEqual(line.stock(1, 1, 0), 1)
        self.assertEqual(line.stock(2, 1, 0), 1)

    def test_a_new_message_behind_a_strike_has_the_next_number(self):
        line = two_gives()
        line.deliver_all()
        line.pass_on(1)
        line.give(1, 1, 2, 3, 4)
        line.pass_on(0)
        self.assertEqual(line.stocks(1, 1, 3), [1, 1, 4])


class Cuts(unittest.TestCase):
    def test_what_was_not_written_is_never_sent(self):
        line = Line(1, 3, 1, [9])
        line.give(1, 1, 0, 1, 1)
        line.cut(0)
        line.sync(0)
        self.assertEqual(line.under_way(), 0)
        self.assertEqual(line.again(0), [0, 0])
        self.assertEqual(line.stocks(0, 1, 3), [9, 9, 9])

    def test_what_was_written_is_still_under_way_and_still_sent(self):
        line = two_gives()
        line.cut(0)
        self.assertEqual(line.under_way(), 2)
        self.assertEqual(line.again(0), [0, 2])
        self.assertEqual(line.stocks(0, 1, 3), [8, 8, 9])
        line.deliver_all()
        self.assertEqual(line.stocks(1, 1, 3), [1, 1, 0])

    def test_message_numbers_are_used_again(self):
        line = Line(1, 3, 1, [9])
        line.give(1, 1, 0, 1, 1)
        line.give(1, 1, 0, 1, 1)
        line.cut(0)
        line.give(1, 1, 2, 3, 5)
        line.pass_on(0)
        self.assertEqual(line.stocks(1, 1, 3), [0, 0, 5])
        self.assertEqual(line.stocks(0, 1, 3), [9, 9, 4])

    def test_message_numbers_behind_a_writing_are_used_again(self):
        line = two_gives()
        line.give(1, 1, 0, 1, 7)
        line.cut(0)
        line.give(1, 1, 2, 3, 5)
        line.sync(0)
        self.assertEqual(line.under_way(), 3)
        line.deliver_all()
        self.assertEqual(line.stocks(1, 1, 3), [1, 1, 5])

    def test_booking_numbers_are_used_again(self):
        line = Line(1, 3, 1, [9])
        line.sell(0, 1, 0, 1)
        line.sync(0)
        self.assertEqual(line.sell(0, 1, 0, 1), [0, 2])
        self.assertEqual(line.shut(1, 0, 1, 1), [0, 3])
        line.cut(0)
        self.assertEqual(line.shut(1, 0, 1, 1), [0, 2])
        self.assertEqual(line.sell(0, 1, 0, 1), [0, 3])

    def test_the_number_of_a_booking_dropped_and_written_is_not_used_again(self):
        line = Line(1, 3, 1, [9])
        line.sell(0, 1, 0, 1)
        line.sync(0)
        line.cancel(0, 1)
        line.sync(0)
        line.cut(0)
        self.assertEqual(line.sell(0, 1, 0, 1), [0, 2])

    def test_ask_numbers_are_used_again(self):
        line = Line(1, 3, 1, [9])
        line.ask(1, 1, 0, 1, 1)
        line.cut(1)
        self.assertEqual(line.ask(1, 1, 1, 2, 2), [0, 1])
        line.pass_on(1)
        line.pass_on(0)
        self.assertEqual(line.stocks(1, 1, 3), [0, 2, 0])
        self.assertEqual(line.waiting(1), [])

    def test_what_came_and_was_not_written_comes_again(self):
        line = two_gives()
        line.deliver_all()
        self.assertEqual(line.stocks(1, 1, 3), [1, 1, 0])
        line.cut(1)
        self.assertEqual(line.stocks(1, 1, 3), [0, 0, 0])
        line.sync(1)
        self.assertEqual(line.under_way(), 0)
        line.again(0)
        line.deliver_all()
        self.assertEqual(line.stocks(1, 1, 3), [1, 1, 0])

    def test_what_came_and_was_written_does_not_come_again(self):
        line = two_gives()
        line.deliver_all()
        line.sync(1)
        line.cut(1)
        self.assertEqual(line.stocks(1, 1, 3), [1, 1, 0])
        line.again(0)
        line.deliver_all()
        self.assertEqual(line.stocks(1, 1, 3), [1, 1, 0])

    def test_word_that_was_put_on_the_net_is_not_owed_on_the_disk(self):
        line = two_gives()
        line.deliver_all()
        line.sync(1)
        self.assertEqual(line.under_way(), 1)
        line.cut(1)
        line.sync(1)
        self.assertEqual(line.under_way(), 1)

    def test_word_that_came_and_was_not_written_is_forgotten(self):
        line = two_gives()
        line.deliver_all()
        line.pass_on(1)
        line.cut(0)
        self.assertEqual(line.again(0), [0, 2])

    def test_a_strike_counts_for_a_writing_ahead_of_which_it_came(self):
        line = two_gives()
        line.deliver_all()
        line.give(1, 1, 2, 3, 1)
        line.pass_on(1)
        line.sync(0)
        self.assertEqual(line.under_way(), 1)
        self.assertEqual(line.again(0), [0, 1])

    def test_an_answer_to_a_recall_is_forgotten_with_the_recall(self):
        line = Line(1, 2, 2, [3])
        line.give(1, 1, 0, 2, 3)
        line.pass_on(0)
        line.sync(1)
        line.deliver_all()
        line.ask(2, 1, 0, 2, 2)
        line.pass_on(2)
        line.pass_on(0)
        self.assertEqual(line.stocks(1, 1, 2), [1, 1])
        line.cut(1)
        self.assertEqual(line.stocks(1, 1, 2), [3, 3])
        line.sync(1)
        self.assertEqual(line.under_way(), 0)
        line.settle(2, 3)
        self.assertEqual(line.stocks(1, 1, 2), [1, 1])
        self.assertEqual(line.stocks(2, 1, 2), [2, 2])


class Full(unittest.TestCase):
    def test_eighty_at_most(self):
        line = full_line()
        self.assertEqual(line.under_way(), 80)
        self.assertEqual(line.again(0), [0, 0])
        self.assertEqual(line.under_way(), 80)

    def test_only_those_that_found_room_are_counted(self):
        line = full_line()
        for turn in range(3):
            line.deliver(1)
        self.assertEqual(line.again(0), [0, 3])
        self.assertEqual(line.under_way(), 80)

    def test_the_last_ones_are_lost_not_the_first(self):
        line = full_line()
        for turn in range(78):
            line.deliver(1)
        self.assertEqual(line.stocks(1, 1, 2), [20, 20])
        self.assertEqual(line.under_way(), 2)
        line.again(0)
        line.again(0)
        self.assertEqual(line.under_way(), 80)

    def test_what_is_written_finds_no_room_and_can_be_sent_again(self):
        line = full_line()
        line.ask(2, 1, 0, 1, 1)
        line.sync(2)
        self.assertEqual(line.under_way(), 80)
        self.assertEqual(line.again(2), [0, 0])
        line.deliver(1)
        self.assertEqual(line.again(2), [0, 1])
        line.deliver(80)
        line.sync(0)
        self.assertEqual(line.under_way(), 80)
        self.assertEqual(line.stock(0, 1, 0), 9)

    def test_word_that_finds_no_room_is_not_owed_any_more(self):
        line = full_line()
        line.deliver(1)
        line.again(0)
        line.sync(1)
        self.assertEqual(line.under_way(), 80)
        line.deliver(2)
        line.sync(1)
        self.assertEqual(line.under_way(), 79)

    def test_a_writing_that_fills_the_net(self):
        line = Line(1, 2, 2, [30])
        for turn in range(26):
            line.give(1, 1, 0, 1, 1)
        line.sync(0)
        line.again(0)
        line.again(0)
        self.assertEqual(line.under_way(), 78)
        for turn in range(3):
            line.give(2, 1, 1, 2, 1)
        line.sync(0)
        self.assertEqual(line.under_way(), 80)
        line.deliver(80)
        line.deliver(79)
        self.assertEqual(line.stock(2, 1, 1), 1)


if __name__ == "__main__":
    unittest.main()
