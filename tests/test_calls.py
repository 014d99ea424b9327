"""Each call, accepted, and the refusals told with it."""

import unittest

from tests.helper import Line


class Give(unittest.TestCase):
    def test_the_stock_is_less_at_once_and_the_agents_more_when_it_comes(self):
        line = Line(2, 4, 2, [3, 5])
        self.assertEqual(line.give(2, 1, 1, 3, 2), [0])
        self.assertEqual(line.stocks(0, 1, 4), [3, 1, 1, 3])
        self.assertEqual(line.stocks(0, 2, 4), [5, 5, 5, 5])
        self.assertEqual(line.stocks(2, 1, 4), [0, 0, 0, 0])
        line.pass_on(0)
        self.assertEqual(line.stocks(2, 1, 4), [0, 2, 2, 0])
        self.assertEqual(line.stocks(2, 2, 4), [0, 0, 0, 0])
        self.assertEqual(line.stocks(1, 1, 4), [0, 0, 0, 0])

    def test_all_that_the_stock_has_and_one_more(self):
        line = Line(1, 3, 1, [3])
        self.assertEqual(line.give(1, 1, 0, 3, 4), [-3])
        self.assertEqual(line.give(1, 1, 0, 3, 3), [0])
        self.assertEqual(line.give(1, 1, 2, 3, 1), [-3])

    def test_one_night_without_stock_is_enough_to_refuse(self):
        for night in range(3):
            line = Line(1, 3, 1, [1])
            line.sell(0, 1, night, night + 1)
            self.assertEqual(line.give(1, 1, 0, 3, 1), [-3])

    def test_rights_that_come_unasked_settle_no_ask(self):
        line = Line(1, 3, 1, [9])
        line.ask(1, 1, 0, 1, 1)
        line.ask(1, 1, 1, 2, 1)
        line.give(1, 1, 0, 3, 2)
        line.pass_on(0)
        self.assertEqual(line.stocks(1, 1, 3), [2, 2, 2])
        self.assertEqual(line.waiting(1), [1, 2])

    def test_no_rooms_at_all(self):
        line = Line(1, 1, 1, [0])
        self.assertEqual(line.give(1, 1, 0, 1, 1), [-3])


class Back(unittest.TestCase):
    def test_the_agents_stock_is_less_at_once_and_the_houses_more_when_it_comes(self):
        line = Line(2, 4, 2, [3, 3])
        line.give(1, 2, 0, 4, 3)
        line.pass_on(0)
        self.assertEqual(line.back(1, 2, 1, 3, 2), [0])
        self.assertEqual(line.stocks(1, 2, 4), [3, 1, 1, 3])
        self.assertEqual(line.stocks(0, 2, 4), [0, 0, 0, 0])
        line.pass_on(1)
        self.assertEqual(line.stocks(0, 2, 4), [0, 2, 2, 0])
        self.assertEqual(line.stocks(0, 1, 4), [3, 3, 3, 3])
        self.assertEqual(line.stocks(1, 2, 4), [3, 1, 1, 3])

    def test_only_what_the_agent_has(self):
        line = Line(1, 3, 2, [4])
        line.give(1, 1, 0, 2, 2)
        self.assertEqual(line.back(1, 1, 0, 1, 1), [-3])
        line.pass_on(0)
        self.assertEqual(line.back(2, 1, 0, 1, 1), [-3])
        self.assertEqual(line.back(1, 1, 0, 3, 1), [-3])
        self.assertEqual(line.back(1, 1, 0, 2, 3), [-3])
        self.assertEqual(line.back(1, 1, 0, 2, 2), [0])
        self.assertEqual(line.back(1, 1, 0, 1, 1), [-3])


class Asks(unittest.TestCase):
    def test_an_ask_answers_its_number_and_comes_to_be_given(self):
        line = Line(1, 3, 2, [3])
        self.assertEqual(line.ask(1, 1, 0, 2, 2), [0, 1])
        self.assertEqual(line.waiting(1), [1])
        line.pass_on(1)
        self.assertEqual(line.stocks(0, 1, 3), [1, 1, 3])
        self.assertEqual(line.waiting(1), [1])
        line.pass_on(0)
        self.assertEqual(line.waiting(1), [])
        self.assertEqual(line.stocks(1, 1, 3), [2, 2, 0])

    def test_each_agent_has_numbers_of_its_own(self):
        line = Line(1, 3, 2, [3])
        self.assertEqual(line.ask(1, 1, 0, 1, 1), [0, 1])
        self.assertEqual(line.ask(2, 1, 0, 1, 1), [0, 1])
        self.assertEqual(line.ask(1, 1, 0, 1, 1), [0, 2])
        self.assertEqual(line.ask(2, 1, 0, 1, 1), [0, 2])

    def test_two_wait_at_most(self):
        line = Line(1, 3, 2, [3])
        line.ask(1, 1, 0, 1, 1)
        line.ask(1, 1, 1, 2, 1)
        self.assertEqual(line.ask(1, 1, 2, 3, 1), [-4])
        self.assertEqual(line.ask(2, 1, 2, 3, 1), [0, 1])
        line.unask(1, 1)
        self.assertEqual(line.ask(1, 1, 2, 3, 1), [0, 3])
        self.assertEqual(line.ask(1, 1, 2, 3, 1), [-4])

    def test_one_that_is_given_or_refused_makes_room(self):
        line = Line(1, 3, 1, [3])
        line.ask(1, 1, 0, 1, 1)
        line.ask(1, 1, 1, 2, 9)
        line.pass_on(1)
        self.assertEqual(line.ask(1, 1, 2, 3, 1), [-4])
        line.sync(0)
        line.deliver(1)
        self.assertEqual(line.ask(1, 1, 2, 3, 1), [0, 3])
        self.assertEqual(line.ask(1, 1, 2, 3, 1), [-4])
        line.deliver(1)
        self.assertEqual(line.ask(1, 1, 2, 3, 1), [0, 4])

    def test_forty_in_all(self):
        line = Line(1, 1, 1, [1])
        for number in range(1, 41):
            self.assertEqual(line.ask(1, 1, 0, 1, 1), [0, number])
            self.assertEqual(line.unask(1, number), [0])
        self.assertEqual(line.ask(1, 1, 0, 1, 1), [-4])

    def test_unask_only_of_an_ask_that_waits(self):
        line = Line(1, 3, 2, [3])
        self.assertEqual(line.unask(1, 1), [-5])
        line.ask(1, 1, 0, 1, 1)
        self.assertEqual(line.unask(2, 1), [-5])
        self.assertEqual(line.unask(1, 2), [-5])
        self.assertEqual(line.unask(1, 40), [-5])
        self.assertEqual(line.unask(1, 1), [0])
        self.assertEqual(line.unask(1, 1), [-5])
        line.ask(1, 1, 0, 1, 1)
        line.pass_on(1)
        line.pass_on(0)
        self.assertEqual(line.unask(1, 2), [-5])

    def test_an_ask_refused_is_over(self):
        line = Line(1, 3, 1, [3])
        line.ask(1, 1, 0, 1, 4)
        line.pass_on(1)
        line.pass_on(0)
        self.assertEqual(line.unask(1, 1), [-5])
        self.assertEqual(line.stocks(1, 1, 3), [0, 0, 0])
        self.assertEqual(line.stocks(0, 1, 3), [3, 3, 3])

    def test_what_was_taken_back_and_given_all_the_same_comes_into_stock(self):
        line = Line(1, 3, 1, [3])
        line.ask(1, 1, 0, 1, 2)
        line.pass_on(1)
        line.unask(1, 1)
        line.pass_on(1)
        line.pass_on(0)
        self.assertEqual(line.stocks(1, 1, 3), [2, 0, 0])
        self.assertEqual(line.stocks(0, 1, 3), [1, 3, 3])


class Bookings(unittest.TestCase):
    def test_sell_at_the_house(self):
        line = Line(2, 3, 1, [2, 1])
        self.assertEqual(line.sell(0, 1, 0, 2), [0, 1])
        self.assertEqual(line.sell(0, 1, 1, 3), [0, 2])
        self.assertEqual(line.sell(0, 2, 0, 3), [0, 3])
        self.assertEqual(line.stocks(0, 1, 3), [1, 0, 1])
        self.assertEqual(line.stocks(0, 2, 3), [0, 0, 0])
        self.assertEqual(line.sell(0, 1, 0, 3), [-3])
        self.assertEqual(line.sell(0, 1, 1, 2), [-3])
        self.assertEqual(line.sell(0, 1, 2, 3), [0, 4])
        self.assertEqual(line.bookings(0), [1, 2, 3, 4])

    def test_sell_at_an_agent(self):
        line = Line(1, 3, 2, [2])
        self.assertEqual(line.sell(1, 1, 0, 1), [-3])
        line.give(1, 1, 0, 2, 1)
        line.pass_on(0)
        self.assertEqual(line.sell(2, 1, 0, 1), [-3])
        self.assertEqual(line.sell(1, 1, 0, 3), [-3])
        self.assertEqual(line.sell(1, 1, 0, 2), [0, 1])
        self.assertEqual(line.sell(1, 1, 0, 2), [-3])
        self.assertEqual(line.sell(0, 1, 0, 3), [0, 1])
        self.assertEqual(line.bookings(1), [1])
        self.assertEqual(line.sync(1), [0, 1, 1, 0])
        self.assertEqual(line.under_way(), 2)

    def test_forty_bookings(self):
        line = Line(1, 2, 1, [30])
        line.give(1, 1, 0, 2, 25)
        line.pass_on(0)
        for number in range(1, 41):
            night = number % 2
            self.assertEqual(line.sell(1, 1, night, night + 1), [0, number])
        self.assertEqual(line.sell(1, 1, 0, 1), [-4])
        self.assertEqual(line.sell(0, 1, 0, 1), [0, 1])
        self.assertEqual(line.change(1, 7, 1, 0, 2), [0, 41])
        self.assertEqual(line.sell(1, 1, 0, 1), [-4])
        self.assertEqual(line.cancel(1, 41), [0])
        self.assertEqual(line.sell(1, 1, 0, 1), [0, 42])
        self.assertEqual(line.sell(1, 1, 0, 1), [-4])

    def test_spans_shut_are_no_bookings(self):
        line = Line(2, 2, 1, [30, 30])
        for number in range(1, 41):
            line.shut(1, number % 2, number % 2 + 1, 1)
        for number in range(41, 81):
            self.assertEqual(line.sell(0, 2, number % 2, number % 2 + 1), [0, number])
        self.assertEqual(line.sell(0, 2, 0, 1), [-4])

    def test_cancel(self):
        line = Line(1, 3, 2, [2])
        line.give(1, 1, 0, 3, 1)
        line.pass_on(0)
        line.sell(1, 1, 0, 2)
        self.assertEqual(line.cancel(0, 1), [-5])
        self.assertEqual(line.cancel(2, 1), [-5])
        self.assertEqual(line.cancel(1, 2), [-5])
        self.assertEqual(line.cancel(1, 1000000), [-5])
        self.assertEqual(line.cancel(1, 1), [0])
        self.assertEqual(line.cancel(1, 1), [-5])
        self.assertEqual(line.stocks(1, 1, 3), [1, 1, 1])
        self.assertEqual(line.stocks(0, 1, 3), [1, 1, 1])
        self.assertEqual(line.sell(1, 1, 0, 3), [0, 2])

    def test_an_agent_sends_sold_and_gone(self):
        line = Line(1, 3, 1, [2])
        line.give(1, 1, 0, 3, 1)
        line.pass_on(0)
        line.pass_on(1)
        self.assertEqual(line.unsure(1), 0)
        line.sell(1, 1, 0, 1)
        line.sync(1)
        self.assertEqual(line.unsure(1), 1)
        line.change(1, 1, 1, 0, 3)
        line.sync(1)
        self.assertEqual(line.unsure(1), 3)
        line.cancel(1, 2)
        line.sync(1)
        self.assertEqual(line.unsure(1), 4)
        self.assertEqual(line.under_way(), 4)

    def test_the_house_sends_nothing_of_its_own_bookings(self):
        line = Line(1, 3, 1, [2])
        line.sell(0, 1, 0, 1)
        line.change(0, 1, 1, 0, 3)
        line.cancel(0, 2)
        line.shut(1, 0, 1, 1)
        line.reopen(3)
        self.assertEqual(line.sync(0), [0, 0, 0])
        self.assertEqual(line.under_way(), 0)

    def test_change_may_use_the_nights_that_it_frees(self):
        line = Line(1, 4, 1, [1])
        line.sell(0, 1, 0, 2)
        self.assertEqual(line.change(0, 1, 1, 1, 4), [0, 2])
        self.assertEqual(line.stocks(0, 1, 4), [1, 0, 0, 0])
        self.assertEqual(line.bookings(0), [2])
        self.assertEqual(line.change(0, 2, 1, 1, 4), [0, 3])
        self.assertEqual(line.stocks(0, 1, 4), [1, 0, 0, 0])

    def test_change_to_another_kind(self):
        line = Line(2, 2, 1, [1, 1])
        line.sell(0, 1, 0, 2)
        self.assertEqual(line.change(0, 1, 2, 0, 1), [0, 2])
        self.assertEqual(line.stocks(0, 1, 2), [1, 1])
        self.assertEqual(line.stocks(0, 2, 2), [0, 1])

    def test_change_that_cannot_be_sold(self):
        line = Line(1, 4, 1, [2])
        line.give(1, 1, 0, 3, 1)
        line.pass_on(0)
        line.sell(1, 1, 0, 2)
        self.assertEqual(line.change(1, 1, 1, 1, 4), [-3])
        self.assertEqual(line.change(1, 2, 1, 0, 1), [-5])
        self.assertEqual(line.change(0, 1, 1, 0, 1), [-5])
        self.assertEqual(line.bookings(1), [1])
        self.assertEqual(line.stocks(1, 1, 4), [0, 0, 1, 0])
        self.assertEqual(line.sync(1), [0, 1, 1, 0])
        self.assertEqual(line.change(1, 1, 1, 1, 3), [0, 2])
        self.assertEqual(line.stocks(1, 1, 4), [1, 0, 0, 0])


class Shutting(unittest.TestCase):
    def test_shut_and_reopen(self):
        line = Line(2, 3, 1, [3, 3])
        self.assertEqual(line.shut(1, 0, 2, 2), [0, 1])
        self.assertEqual(line.stocks(0, 1, 3), [1, 1, 3])
        self.assertEqual(line.shut(1, 0, 3, 2), [-3])
        self.assertEqual(line.shut(2, 0, 3, 3), [0, 2])
        self.assertEqual(line.stocks(0, 2, 3), [0, 0, 0])
        self.assertEqual(line.reopen(3), [-5])
        self.assertEqual(line.reopen(1000000), [-5])
        self.assertEqual(line.reopen(1), [0])
        self.assertEqual(line.reopen(1), [-5])
        self.assertEqual(line.stocks(0, 1, 3), [3, 3, 3])
        self.assertEqual(line.stocks(0, 2, 3), [0, 0, 0])
        self.assertEqual(line.shut_spans(), [2])

    def test_numbers_come_out_of_one_row_with_bookings(self):
        line = Line(1, 3, 1, [9])
        self.assertEqual(line.sell(0, 1, 0, 1), [0, 1])
        self.assertEqual(line.shut(1, 0, 1, 1), [0, 2])
        self.assertEqual(line.sell(0, 1, 0, 1), [0, 3])
        self.assertEqual(line.shut(1, 0, 1, 1), [0, 4])
        self.assertEqual(line.change(0, 1, 1, 1, 2), [0, 5])
        self.assertEqual(line.bookings(0), [3, 5])
        self.assertEqual(line.shut_spans(), [2, 4])
        self.assertEqual(line.cancel(0, 2), [-5])
        self.assertEqual(line.change(0, 4, 1, 0, 1), [-5])
        self.assertEqual(line.reopen(3), [-5])

    def test_forty_spans(self):
        line = Line(1, 2, 1, [30])
        for number in range(1, 41):
            self.assertEqual(line.shut(1, number % 2, number % 2 + 1, 1), [0, number])
        self.assertEqual(line.shut(1, 0, 1, 1), [-4])
        self.assertEqual(line.sell(0, 1, 0, 1), [0, 41])
        self.assertEqual(line.reopen(17), [0])
        self.assertEqual(line.shut(1, 0, 1, 1), [0, 42])
        self.assertEqual(line.shut(1, 0, 1, 1), [-4])


class Sync(unittest.TestCase):
    def test_which_bookings_came_and_went(self):
        line = Line(1, 4, 1, [9])
        self.assertEqual(line.sync(0), [0, 0, 0])
        for turn in range(4):
            line.sell(0, 1, turn, turn + 1)
        self.assertEqual(line.sync(0), [0, 4, 1, 2, 3, 4, 0])
        self.assertEqual(line.sync(0), [0, 0, 0])
        line.cancel(0, 3)
        line.sell(0, 1, 0, 4)
        line.change(0, 1, 1, 0, 1)
        self.assertEqual(line.sync(0), [0, 2, 5, 6, 2, 1, 3])
        self.assertEqual(line.sync(0), [0, 0, 0])

    def test_what_came_and_went_between_two_writings_is_not_told(self):
        line = Line(1, 4, 1, [9])
        line.sell(0, 1, 0, 1)
        line.cancel(0, 1)
        line.sell(0, 1, 0, 1)
        line.change(0, 2, 1, 1, 2)
        self.assertEqual(line.sync(0), [0, 1, 3, 0])

    def test_rooms_shut_are_not_told(self):
        line = Line(1, 4, 1, [9])
        line.shut(1, 0, 1, 1)
        line.sell(0, 1, 0, 1)
        self.assertEqual(line.sync(0), [0, 1, 2, 0])
        line.reopen(1)
        self.assertEqual(line.sync(0), [0, 0, 0])

    def test_each_node_has_a_disk_of_its_own(self):
        line = Line(1, 4, 1, [9])
        line.give(1, 1, 0, 4, 3)
        line.pass_on(0)
        line.sell(1, 1, 0, 1)
        line.sell(0, 1, 0, 1)
        self.assertEqual(line.sync(0), [0, 1, 1, 0])
        self.assertEqual(line.sync(1), [0, 1, 1, 0])


class Cut(unittest.TestCase):
    def test_ahead_of_any_writing_all_is_as_at_first(self):
        line = Line(1, 2, 1, [3])
        line.sell(0, 1, 0, 2)
        line.shut(1, 0, 1, 1)
        line.give(1, 1, 0, 2, 1)
        line.ask(1, 1, 0, 1, 1)
        self.assertEqual(line.cut(0), [0])
        self.assertEqual(line.stocks(0, 1, 2), [3, 3])
        self.assertEqual(line.bookings(0), [])
        self.assertEqual(line.shut_spans(), [])
        self.assertEqual(line.waiting(1), [1])
        self.assertEqual(line.cut(1), [0])
        self.assertEqual(line.waiting(1), [])
        self.assertEqual(line.sync(0), [0, 0, 0])
        self.assertEqual(line.sync(1), [0, 0, 0])
        self.assertEqual(line.under_way(), 0)
        self.assertEqual(line.sell(0, 1, 0, 1), [0, 1])
        self.assertEqual(line.ask(1, 1, 0, 1, 1), [0, 1])

    def test_behind_a_writing_what_was_written_is_known(self):
        line = Line(1, 2, 1, [3])
        line.sell(0, 1, 0, 2)
        line.shut(1, 0, 1, 1)
        line.sync(0)
        line.sell(0, 1, 0, 1)
        line.cancel(0, 1)
        line.reopen(2)
        line.cut(0)
        self.assertEqual(line.bookings(0), [1])
        self.assertEqual(line.shut_spans(), [2])
        self.assertEqual(line.stocks(0, 1, 2), [1, 2])
        self.assertEqual(line.sell(0, 1, 0, 1), [0, 3])

    def test_of_one_node_alone(self):
        line = Line(1, 2, 1, [3])
        line.sell(0, 1, 0, 2)
        line.ask(1, 1, 0, 1, 1)
        line.cut(1)
        self.assertEqual(line.bookings(0), [1])
        self.assertEqual(line.waiting(1), [])

    def test_an_ask_taken_back_waits_again(self):
        line = Line(1, 2, 1, [3])
        line.ask(1, 1, 0, 1, 1)
        line.sync(1)
        line.unask(1, 1)
        line.cut(1)
        self.assertEqual(line.waiting(1), [1])
        self.assertEqual(line.ask(1, 1, 0, 1, 1), [0, 2])

    def test_twice_and_with_changes_between(self):
        line = Line(1, 2, 1, [3])
        line.sell(0, 1, 0, 2)
        line.sync(0)
        for turn in range(3):
            self.assertEqual(line.sell(0, 1, 0, 1), [0, 2])
            self.assertEqual(line.cancel(0, 1), [0])
            self.assertEqual(line.shut(1, 0, 2, 1), [0, 3])
            line.cut(0)
        self.assertEqual(line.bookings(0), [1])
        self.assertEqual(line.stocks(0, 1, 2), [2, 2])


class Again(unittest.TestCase):
    def test_how_many_more_are_under_way(self):
        line = Line(1, 2, 3, [9])
        self.assertEqual(line.again(0), [0, 0])
        line.give(3, 1, 0, 1, 1)
        line.give(1, 1, 0, 1, 1)
        line.give(3, 1, 0, 1, 1)
        self.assertEqual(line.again(0), [0, 0])
        line.sync(0)
        self.assertEqual(line.under_way(), 3)
        self.assertEqual(line.again(0), [0, 3])
        self.assertEqual(line.under_way(), 6)
        self.assertEqual(line.again(1), [0, 0])

    def test_only_what_is_on_the_disk_by_the_disk(self):
        line = Line(1, 2, 1, [9])
        line.give(1, 1, 0, 1, 1)
        line.sync(0)
        line.give(1, 1, 0, 1, 1)
        self.assertEqual(line.again(0), [0, 1])
        line.deliver(1)
        line.sync(1)
        line.deliver(2)
        self.assertEqual(line.again(0), [0, 1])
        line.sync(0)
        self.assertEqual(line.again(0), [0, 1])
        self.assertEqual(line.under_way(), 4)


class Deliver(unittest.TestCase):
    def test_only_as_many_as_are_under_way(self):
        line = Line(1, 2, 2, [9])
        self.assertEqual(line.deliver(1), [-5])
        line.give(1, 1, 0, 1, 1)
        line.give(2, 1, 0, 1, 2)
        line.sync(0)
        self.assertEqual(line.deliver(3), [-5])
        self.assertEqual(line.deliver(80), [-5])
        self.assertEqual(line.deliver(2), [0])
        self.assertEqual(line.stock(2, 1, 0), 2)
        self.assertEqual(line.stock(1, 1, 0), 0)
        self.assertEqual(line.deliver(2), [-5])
        self.assertEqual(line.deliver(1), [0])
        self.assertEqual(line.stock(1, 1, 0), 1)
        self.assertEqual(line.deliver(1), [-5])


if __name__ == "__main__":
    unittest.main()
