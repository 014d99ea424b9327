"""Asks that wait at the house."""

import unittest

from tests.helper import Line


def spread(rooms, nights, shares):
    """A hotel of one kind whose agents got these shares for all nights; nothing is under way."""
    line = Line(1, nights, len(shares), [rooms])
    for agent, share in enumerate(shares, start=1):
        if share > 0:
            line.give(agent, 1, 0, nights, share)
    line.pass_on(0)
    for agent in range(1, len(shares) + 1):
        line.sync(agent)
    line.deliver_all()
    line.sync(0)
    return line


class OneWait(unittest.TestCase):
    def test_given_at_once_out_of_the_houses_stock(self):
        line = spread(5, 3, [1, 1])
        line.ask(1, 1, 1, 3, 3)
        line.pass_on(1)
        self.assertEqual(line.stocks(0, 1, 3), [3, 0, 0])
        line.sync(0)
        self.assertEqual(line.under_way(), 2)
        line.deliver_all()
        self.assertEqual(line.stocks(1, 1, 3), [1, 4, 4])
        self.assertEqual(line.stocks(2, 1, 3), [1, 1, 1])
        self.assertEqual(line.waiting(1), [])

    def test_asked_around_and_given(self):
        line = spread(6, 3, [1, 3, 2])
        line.ask(1, 1, 0, 2, 4)
        line.pass_on(1)
        line.sync(0)
        self.assertEqual(line.under_way(), 3)
        line.deliver_all()
        self.assertEqual(line.stocks(2, 1, 3), [0, 0, 3])
        self.assertEqual(line.stocks(3, 1, 3), [0, 0, 2])
        self.assertEqual(line.stocks(1, 1, 3), [1, 1, 1])
        line.pass_on(2)
        self.assertEqual(line.stocks(0, 1, 3), [3, 3, 0])
        line.sync(0)
        self.assertEqual(line.under_way(), 1)
        line.deliver_all()
        line.pass_on(3)
        self.assertEqual(line.stocks(0, 1, 3), [1, 1, 0])
        line.pass_on(0)
        self.assertEqual(line.stocks(1, 1, 3), [5, 5, 1])
        self.assertEqual(line.waiting(1), [])

    def test_a_recall_takes_as_much_as_there_is_night_by_night(self):
        line = spread(6, 4, [0, 6])
        line.sell(2, 1, 1, 2)
        line.sell(2, 1, 2, 3)
        line.sell(2, 1, 2, 3)
        line.back(2, 1, 3, 4, 6)
        line.ask(1, 1, 0, 3, 5)
        line.pass_on(1)
        line.pass_on(0)
        self.assertEqual(line.stocks(2, 1, 4), [1, 0, 0, 0])
        line.sync(2)
        line.deliver_all()
        self.assertEqual(line.stocks(0, 1, 4), [5, 5, 4, 6])
        line.pass_on(0)
        self.assertEqual(line.waiting(1), [])
        self.assertEqual(line.stocks(1, 1, 4), [0, 0, 0, 0])

    def test_an_agent_with_nothing_answers_too(self):
        line = spread(2, 3, [2, 0, 0])
        line.ask(2, 1, 0, 3, 1)
        line.pass_on(2)
        line.pass_on(0)
        line.pass_on(3)
        self.assertEqual(line.stocks(0, 1, 3), [0, 0, 0])
        line.pass_on(0)
        self.assertEqual(line.waiting(2), [1])
        line.pass_on(1)
        line.pass_on(0)
        self.assertEqual(line.waiting(2), [])
        self.assertEqual(line.stocks(2, 1, 3), [1, 1, 1])

    def test_refused_when_all_have_answered(self):
        line = spread(5, 2, [1, 2, 1])
        line.ask(1, 1, 0, 2, 5)
        line.pass_on(1)
        line.pass_on(0)
        line.pass_on(2)
        line.pass_on(0)
        self.assertEqual(line.waiting(1), [1])
        line.pass_on(3)
        line.pass_on(0)
        self.assertEqual(line.waiting(1), [])
        self.assertEqual(line.stocks(1, 1, 2), [1, 1])
        self.assertEqual(line.stocks(0, 1, 2), [4, 4])

    def test_given_as_soon_as_there_is_enough(self):
        line = spread(6, 2, [0, 3, 3])
        line.ask(1, 1, 0, 2, 3)
        line.pass_on(1)
        line.pass_on(0)
        line.pass_on(2)
        line.pass_on(0)
        self.assertEqual(line.stocks(1, 1, 2), [3, 3])
        line.pass_on(3)
        self.assertEqual(line.stocks(0, 1, 2), [3, 3])
        self.assertEqual(line.stocks(3, 1, 2), [0, 0])

    def test_without_other_agents_refused_at_once(self):
        line = spread(3, 2, [1])
        line.ask(1, 1, 0, 2, 3)
        line.pass_on(1)
        line.sync(0)
        self.assertEqual(line.under_way(), 2)
        line.deliver_all()
        self.assertEqual(line.waiting(1), [])
        self.assertEqual(line.stocks(1, 1, 2), [1, 1])
        self.assertEqual(line.stocks(0, 1, 2), [2, 2])

    def test_more_than_there_are_rooms(self):
        line = spread(3, 2, [1, 1])
        line.ask(1, 1, 0, 2, 30)
        line.settle(2, 4)
        self.assertEqual(line.waiting(1), [])
        self.assertEqual(line.stocks(0, 1, 2), [2, 2])
        self.assertEqual(line.stocks(2, 1, 2), [0, 0])

    def test_taken_back_ahead_of_the_answers(self):
        line = spread(4, 2, [0, 4])
        line.ask(1, 1, 0, 2, 2)
        line.pass_on(1)
        line.unask(1, 1)
        line.pass_on(1)
        line.pass_on(0)
        line.pass_on(2)
        line.pass_on(0)
        self.assertEqual(line.stocks(0, 1, 2), [2, 2])
        self.assertEqual(line.stocks(1, 1, 2), [0, 0])
        self.assertEqual(line.stocks(2, 1, 2), [2, 2])

    def test_an_unask_of_one_agent_leaves_anothers_ask_with_this_number(self):
        line = spread(4, 2, [0, 0, 4])
        line.ask(1, 1, 0, 1, 2)
        line.ask(2, 1, 1, 2, 2)
        line.pass_on(1)
        line.pass_on(2)
        line.unask(1, 1)
        line.settle(3, 3)
        self.assertEqual(line.stocks(1, 1, 2), [0, 0])
        self.assertEqual(line.stocks(2, 1, 2), [0, 2])
        self.assertEqual(line.stocks(0, 1, 2), [2, 0])

    def test_recalls_go_to_the_others_by_their_numbers(self):
        line = spread(9, 1, [3, 0, 3, 3])
        line.ask(2, 1, 0, 1, 9)
        line.pass_on(2)
        line.sync(0)
        self.assertEqual(line.under_way(), 4)
        line.deliver(1)
        self.assertEqual([line.stock(agent, 1, 0) for agent in (1, 3, 4)], [0, 3, 3])
        line.deliver(2)
        self.assertEqual([line.stock(agent, 1, 0) for agent in (1, 3, 4)], [0, 0, 3])
        line.deliver(2)
        self.assertEqual([line.stock(agent, 1, 0) for agent in (1, 3, 4)], [0, 0, 0])

    def test_recalls_go_out_once(self):
        line = spread(6, 1, [0, 2, 2])
        line.shut(1, 0, 1, 2)
        line.ask(1, 1, 0, 1, 3)
        line.pass_on(1)
        line.pass_on(0)
        line.pass_on(2)
        line.sync(0)
        self.assertEqual(line.under_way(), 1)
        self.assertEqual(line.shut(1, 0, 1, 1), [0, 2])
        self.assertEqual(line.reopen(2), [0])
        line.deliver_all()
        line.sync(0)
        self.assertEqual(line.under_way(), 0)

    def test_the_houses_own_sales_can_take_what_came_back(self):
        line = spread(2, 1, [0, 1, 1])
        line.ask(1, 1, 0, 1, 2)
        line.pass_on(1)
        line.pass_on(0)
        line.pass_on(2)
        self.assertEqual(line.sell(0, 1, 0, 1), [0, 1])
        line.pass_on(3)
        line.pass_on(0)
        self.assertEqual(line.waiting(1), [])
        self.assertEqual(line.stock(1, 1, 0), 0)
        self.assertEqual(line.stock(0, 1, 0), 1)


class MoreWaits(unittest.TestCase):
    def test_one_that_overlaps_an_earlier_one_stays(self):
        line = spread(4, 4, [0, 0, 2])
        line.ask(1, 1, 0, 2, 3)
        line.ask(2, 1, 1, 3, 1)
        line.pass_on(1)
        line.pass_on(2)
        self.assertEqual(line.stocks(0, 1, 4), [2, 2, 2, 2])
        line.settle(3, 3)
        self.assertEqual(line.waiting(1), [])
        self.assertEqual(line.waiting(2), [])
        self.assertEqual(line.stocks(1, 1, 4), [3, 3, 0, 0])
        self.assertEqual(line.stocks(2, 1, 4), [0, 1, 1, 0])
        self.assertEqual(line.stocks(0, 1, 4), [1, 0, 1, 2])

    def test_one_that_only_touches_an_earlier_one_does_not(self):
        line = spread(4, 4, [0, 0, 2])
        line.ask(1, 1, 0, 2, 3)
        line.ask(2, 1, 2, 4, 1)
        line.pass_on(1)
        line.pass_on(2)
        self.assertEqual(line.stocks(0, 1, 4), [2, 2, 1, 1])

    def test_one_that_ends_where_an_earlier_one_begins_does_not(self):
        line = spread(4, 4, [0, 0, 2])
        line.ask(1, 1, 2, 4, 3)
        line.ask(2, 1, 0, 2, 1)
        line.pass_on(1)
        line.pass_on(2)
        self.assertEqual(line.stocks(0, 1, 4), [1, 1, 2, 2])

    def test_one_within_and_one_around_an_earlier_one_stay(self):
        for first, behind in ((1, 3), (0, 4), (0, 2), (2, 4), (2, 3)):
            line = spread(4, 4, [0, 0, 2])
            line.ask(1, 1, 1, 3, 3)
            line.ask(2, 1, first, behind, 1)
            line.pass_on(1)
            line.pass_on(2)
            self.assertEqual(line.stocks(0, 1, 4), [2, 2, 2, 2], (first, behind))

    def test_one_of_another_kind_does_not(self):
        line = Line(2, 2, 2, [1, 1])
        line.ask(1, 1, 0, 2, 2)
        line.ask(2, 2, 0, 2, 1)
        line.pass_on(1)
        line.pass_on(2)
        self.assertEqual(line.stocks(0, 2, 2), [0, 0])

    def test_a_later_ask_of_the_same_agent_stands_behind_its_earlier_one(self):
        line = spread(4, 2, [0, 2])
        line.ask(1, 1, 0, 2, 3)
        line.ask(1, 1, 0, 2, 1)
        line.pass_on(1)
        self.assertEqual(line.stocks(0, 1, 2), [2, 2])
        line.settle(2, 3)
        self.assertEqual(line.stocks(1, 1, 2), [4, 4])
        self.assertEqual(line.waiting(1), [])

    def test_one_that_stays_behind_another_is_not_asked_around_yet(self):
        line = spread(2, 2, [0, 0, 2])
        line.ask(1, 1, 0, 2, 1)
        line.ask(2, 1, 0, 2, 1)
        line.pass_on(1)
        line.pass_on(2)
        line.sync(0)
        self.assertEqual(line.under_way(), 4)
        line.deliver_all()
        line.pass_on(3)
        line.pass_on(2)
        line.sync(0)
        self.assertEqual(line.under_way(), 5)

    def test_the_next_one_is_looked_at_when_the_one_before_it_goes(self):
        line = spread(3, 2, [0, 0, 1])
        line.ask(1, 1, 0, 2, 3)
        line.ask(2, 1, 0, 2, 2)
        line.pass_on(1)
        line.pass_on(2)
        self.assertEqual(line.stocks(0, 1, 2), [2, 2])
        line.unask(1, 1)
        line.pass_on(1)
        self.assertEqual(line.stocks(0, 1, 2), [0, 0])
        line.pass_on(0)
        self.assertEqual(line.stocks(2, 1, 2), [2, 2])

    def test_one_refused_lets_the_next_one_be_given_at_the_same_look(self):
        line = spread(3, 2, [1, 1])
        line.ask(1, 1, 0, 2, 5)
        line.ask(1, 1, 0, 2, 2)
        line.pass_on(1)
        line.pass_on(0)
        self.assertEqual(line.stocks(0, 1, 2), [1, 1])
        line.pass_on(2)
        self.assertEqual(line.stocks(0, 1, 2), [0, 0])
        line.pass_on(0)
        self.assertEqual(line.waiting(1), [])
        self.assertEqual(line.stocks(1, 1, 2), [3, 3])

    def test_in_order_of_coming_not_of_asking(self):
        line = spread(2, 1, [0, 0])
        line.ask(1, 1, 0, 1, 2)
        line.ask(2, 1, 0, 1, 2)
        line.pass_on(2)
        line.pass_on(1)
        line.sync(0)
        self.assertEqual(line.under_way(), 4)
        line.deliver(1)
        line.deliver(1)
        self.assertEqual(line.stock(2, 1, 0), 2)
        self.assertEqual(line.stock(1, 1, 0), 0)
        self.assertEqual(line.waiting(1), [1])

    def test_two_asked_around_at_once_keep_their_answers_apart(self):
        line = spread(4, 2, [0, 0, 2])
        line.sell(0, 1, 0, 2)
        line.sell(0, 1, 0, 2)
        line.ask(1, 1, 0, 1, 2)
        line.ask(2, 1, 1, 2, 1)
        line.pass_on(1)
        line.pass_on(2)
        line.pass_on(0)
        self.assertEqual(line.stocks(3, 1, 2), [0, 1])
        line.settle(3, 2)
        self.assertEqual(line.stocks(1, 1, 2), [2, 0])
        self.assertEqual(line.stocks(2, 1, 2), [0, 1])
        self.assertEqual(line.waiting(1) + line.waiting(2), [])


class Answered(unittest.TestCase):
    def asked_around(self):
        """Agent 1's ask for 4 rooms was asked around to agents 2 and 3, who have 2 each; the house has written."""
        line = spread(4, 2, [0, 2, 2])
        line.ask(1, 1, 0, 1, 4)
        line.pass_on(1)
        line.pass_on(0)
        self.assertEqual(line.under_way(), 0)
        return line

    def test_rights_that_come_back_unasked_are_no_answer(self):
        line = spread(4, 2, [0, 4])
        line.ask(1, 1, 0, 1, 4)
        line.pass_on(1)
        line.sync(0)
        line.back(2, 1, 0, 1, 1)
        line.sync(2)
        line.deliver(3)
        self.assertEqual(line.stock(0, 1, 0), 1)
        line.sync(0)
        line.deliver_all()
        self.assertEqual(line.waiting(1), [1])
        line.pass_on(2)
        line.pass_on(0)
        self.assertEqual(line.waiting(1), [])
        self.assertEqual(line.stock(1, 1, 0), 4)

    def test_each_wait_counts_its_own_answers(self):
        line = spread(4, 2, [0, 2, 2])
        line.ask(1, 1, 0, 1, 5)
        line.ask(1, 1, 1, 2, 5)
        line.sync(1)
        line.deliver(1)
        line.pass_on(0)
        line.pass_on(2)
        line.pass_on(3)
        line.again(1)
        line.deliver_all()
        line.pass_on(0)
        self.assertEqual(line.waiting(1), [2])
        line.pass_on(2)
        line.pass_on(0)
        self.assertEqual(line.waiting(1), [2])
        line.pass_on(3)
        line.pass_on(0)
        self.assertEqual(line.waiting(1), [])
        self.assertEqual(line.stocks(0, 1, 2), [4, 4])

    def test_a_cut_forgets_neither_that_it_was_asked_around_nor_who_must_answer(self):
        line = self.asked_around()
        line.cut(0)
        line.back(2, 1, 1, 2, 1)
        line.pass_on(2)
        self.assertEqual(line.stocks(0, 1, 2), [2, 1])
        line.sync(0)
        self.assertEqual(line.under_way(), 1)
        line.deliver_all()
        self.assertEqual(line.waiting(1), [1])
        line.pass_on(3)
        line.pass_on(0)
        self.assertEqual(line.waiting(1), [])
        self.assertEqual(line.stock(1, 1, 0), 4)

    def test_a_cut_forgets_an_answer_that_was_not_written(self):
        line = self.asked_around()
        line.pass_on(2)
        self.assertEqual(line.stock(0, 1, 0), 2)
        line.cut(0)
        self.assertEqual(line.stock(0, 1, 0), 0)
        line.pass_on(3)
        self.assertEqual(line.stock(0, 1, 0), 2)
        line.pass_on(0)
        self.assertEqual(line.waiting(1), [1])
        line.again(2)
        line.deliver_all()
        line.pass_on(0)
        self.assertEqual(line.waiting(1), [])
        self.assertEqual(line.stock(1, 1, 0), 4)

    def test_waits_behind_a_cut_do_not_bear_the_numbers_of_those_written(self):
        line = self.asked_around()
        line.cut(0)
        line.ask(1, 1, 1, 2, 4)
        line.pass_on(1)
        line.sync(2)
        line.sync(3)
        line.deliver_all()
        line.pass_on(0)
        self.assertEqual(line.stocks(1, 1, 2), [4, 0])
        self.assertEqual(line.waiting(1), [2])
        line.pass_on(2)
        line.pass_on(3)
        line.pass_on(0)
        self.assertEqual(line.stocks(1, 1, 2), [4, 4])


class LookedAt(unittest.TestCase):
    def waiting_line(self):
        """Agent 1's ask for a room waits for agent 2's answer; the house has 1 booking and 1 room shut."""
        line = spread(3, 3, [0, 1])
        self.assertEqual(line.sell(0, 1, 0, 3), [0, 1])
        self.assertEqual(line.shut(1, 0, 3, 1), [0, 2])
        line.ask(1, 1, 0, 3, 1)
        line.pass_on(1)
        self.assertEqual(line.stocks(0, 1, 3), [0, 0, 0])
        return line

    def assert_given(self, line):
        self.assertEqual(line.stocks(0, 1, 3), [0, 0, 0])
        line.pass_on(0)
        self.assertEqual(line.stocks(1, 1, 3), [1, 1, 1])
        self.assertEqual(line.waiting(1), [])

    def test_when_a_booking_is_dropped(self):
        line = self.waiting_line()
        line.cancel(0, 1)
        self.assert_given(line)

    def test_when_rooms_are_opened_again(self):
        line = self.waiting_line()
        line.reopen(2)
        self.assert_given(line)

    def test_when_rights_come_back_unasked(self):
        line = self.waiting_line()
        line.back(2, 1, 0, 3, 1)
        line.pass_on(2)
        self.assert_given(line)

    def test_when_a_booking_is_changed_only_behind_the_sale(self):
        line = self.waiting_line()
        self.assertEqual(line.change(0, 1, 1, 1, 2), [0, 3])
        self.assertEqual(line.stocks(0, 1, 3), [1, 0, 1])
        self.assertEqual(line.bookings(0), [3])
        line.pass_on(0)
        self.assertEqual(line.waiting(1), [1])

    def test_when_a_booking_is_changed_to_another_kind(self):
        line = Line(2, 2, 2, [1, 1])
        line.sell(0, 1, 0, 2)
        line.ask(1, 1, 0, 2, 1)
        line.pass_on(1)
        self.assertEqual(line.change(0, 1, 2, 0, 2), [0, 2])
        self.assertEqual(line.stocks(0, 1, 2), [0, 0])
        line.pass_on(0)
        self.assertEqual(line.stocks(1, 1, 2), [1, 1])

    def test_when_a_booking_is_changed_the_next_wait_may_get_what_is_left(self):
        line = spread(1, 2, [0, 0])
        line.sell(0, 1, 0, 2)
        line.ask(1, 1, 0, 1, 1)
        line.pass_on(1)
        self.assertEqual(line.change(0, 1, 1, 1, 2), [0, 2])
        self.assertEqual(line.stocks(0, 1, 2), [0, 0])
        line.pass_on(0)
        self.assertEqual(line.stocks(1, 1, 2), [1, 0])

    def test_not_when_a_change_is_refused(self):
        line = Line(2, 2, 2, [1, 0])
        line.sell(0, 1, 0, 2)
        line.ask(1, 1, 0, 2, 1)
        line.pass_on(1)
        self.assertEqual(line.change(0, 1, 2, 0, 1), [-3])
        self.assertEqual(line.bookings(0), [1])
        line.sync(0)
        self.assertEqual(line.under_way(), 2)
        line.deliver_all()
        self.assertEqual(line.waiting(1), [1])

    def test_not_when_an_agent_drops_its_booking(self):
        line = spread(2, 2, [1, 1])
        line.sell(2, 1, 0, 2)
        line.ask(1, 1, 0, 2, 1)
        line.pass_on(1)
        line.pass_on(0)
        line.cancel(2, 1)
        line.pass_on(2)
        line.pass_on(0)
        self.assertEqual(line.stocks(2, 1, 2), [1, 1])
        self.assertEqual(line.waiting(1), [])
        self.assertEqual(line.stocks(1, 1, 2), [1, 1])

    def test_a_cut_of_the_house_brings_the_wait_back(self):
        line = self.waiting_line()
        line.sync(0)
        line.cancel(0, 1)
        line.cut(0)
        self.assertEqual(line.bookings(0), [1])
        line.sync(0)
        line.deliver_all()
        self.assertEqual(line.stocks(1, 1, 3), [0, 0, 0])
        line.settle(2, 3)
        self.assertEqual(line.stocks(1, 1, 3), [1, 1, 1])
        self.assertEqual(line.stocks(2, 1, 3), [0, 0, 0])


if __name__ == "__main__":
    unittest.main()
