"""Messages that are lost or doubled on the net."""

import unittest

from tests.helper import Line, full_line

GIVES = [(0, 1, 1, (1, 0, 1, 0, 1, 1)), (0, 1, 2, (1, 0, 1, 1, 2, 2)), (0, 2, 1, (1, 0, 1, 0, 2, 3))]


def three_gives():
    """Two gives to agent 1 and one to agent 2 under way."""
    line = Line(1, 2, 2, [9])
    line.give(1, 1, 0, 1, 1)
    line.give(1, 1, 1, 2, 2)
    line.give(2, 1, 0, 2, 3)
    line.sync(0)
    return line


class Lose(unittest.TestCase):
    def test_the_first_one_within_and_the_last(self):
        for place in (1, 2, 3):
            line = three_gives()
            self.assertEqual(line.flying(), GIVES)
            self.assertEqual(line.lose(place), [0])
            self.assertEqual(line.flying(), GIVES[:place - 1] + GIVES[place:])

    def test_only_as_many_as_are_under_way(self):
        line = three_gives()
        self.assertEqual(line.lose(4), [-5])
        self.assertEqual(line.lose(80), [-5])
        for turn in range(3):
            self.assertEqual(line.lose(1), [0])
        self.assertEqual(line.flying(), [])
        self.assertEqual(line.lose(1), [-5])
        self.assertEqual(Line(1, 1, 1, [1]).lose(1), [-5])

    def test_it_does_not_come_and_nobody_knows(self):
        line = three_gives()
        before = [line.book(0), line.owed(0), line.owed(1), line.owed(2), line.cell(1, 0), line.cell(1, 1)]
        line.lose(2)
        after = [line.book(0), line.owed(0), line.owed(1), line.owed(2), line.cell(1, 0), line.cell(1, 1)]
        self.assertEqual(after, before)
        line.deliver_all()
        self.assertEqual(line.stocks(1, 1, 2), [1, 0])
        self.assertEqual(line.stocks(2, 1, 2), [3, 3])

    def test_it_can_be_sent_again(self):
        line = three_gives()
        line.lose(1)
        line.lose(1)
        line.deliver_all()
        self.assertEqual(line.stocks(1, 1, 2), [0, 0])
        self.assertEqual(line.again(0), [0, 3])
        line.deliver_all()
        self.assertEqual(line.stocks(1, 1, 2), [1, 2])
        self.assertEqual(line.stocks(2, 1, 2), [3, 3])

    def test_a_word_that_is_lost_leaves_the_messages_unsure(self):
        line = three_gives()
        line.deliver_all()
        line.sync(1)
        self.assertEqual(line.flying(), [(1, 0, 2, ())])
        line.lose(1)
        self.assertEqual(line.owed(0), [(3, 1, 2), (2, 1, 1)])
        line.sync(1)
        self.assertEqual(line.flying(), [])
        line.again(0)
        line.deliver_all()
        line.sync(1)
        self.assertEqual(line.flying(), [(1, 0, 2, ())])
        line.deliver(1)
        self.assertEqual(line.owed(0), [(3, 1, 0), (2, 1, 1)])

    def test_the_last_of_eighty(self):
        line = full_line()
        parcels = line.flying()
        self.assertEqual(len(parcels), 80)
        self.assertEqual(line.lose(80), [0])
        self.assertEqual(line.flying(), parcels[:79])
        self.assertEqual(line.lose(80), [-5])
        self.assertEqual(line.lose(40), [0])
        self.assertEqual(line.flying(), parcels[:39] + parcels[40:79])
        self.assertEqual(line.lose(1), [0])
        self.assertEqual(line.flying(), parcels[1:39] + parcels[40:79])


class Double(unittest.TestCase):
    def test_the_first_one_within_and_the_last_go_behind_the_others(self):
        for place in (1, 2, 3):
            line = three_gives()
            self.assertEqual(line.double(place), [0])
            self.assertEqual(line.flying(), GIVES + [GIVES[place - 1]])

    def test_only_as_many_as_are_under_way(self):
        line = three_gives()
        self.assertEqual(line.double(4), [-5])
        self.assertEqual(line.double(80), [-5])
        self.assertEqual(line.double(3), [0])
        self.assertEqual(line.double(4), [0])
        self.assertEqual(line.double(6), [-5])
        self.assertEqual(Line(1, 1, 1, [1]).double(1), [-5])

    def test_both_come_and_only_one_is_taken(self):
        line = three_gives()
        line.double(1)
        line.double(3)
        line.deliver_all()
        self.assertEqual(line.stocks(1, 1, 2), [1, 2])
        self.assertEqual(line.stocks(2, 1, 2), [3, 3])
        self.assertEqual(line.owed(1), [(1, 3, 0)])

    def test_the_second_one_can_do_when_the_first_is_lost(self):
        line = three_gives()
        line.double(1)
        line.lose(1)
        line.deliver(1)
        self.assertEqual(line.stocks(1, 1, 2), [0, 0])
        line.deliver(2)
        self.assertEqual(line.stocks(1, 1, 2), [1, 0])

    def test_the_second_one_makes_word_owed_once_more(self):
        line = three_gives()
        line.double(2)
        line.deliver(1)
        line.deliver(1)
        line.sync(1)
        self.assertEqual(line.flying(), [GIVES[2], GIVES[1], (1, 0, 2, ())])
        line.deliver(2)
        line.sync(1)
        self.assertEqual(line.flying(), [GIVES[2], (1, 0, 2, ()), (1, 0, 2, ())])

    def test_a_word(self):
        line = three_gives()
        line.deliver(1)
        line.sync(1)
        self.assertEqual(line.double(3), [0])
        self.assertEqual(line.flying(), GIVES[1:] + [(1, 0, 1, ()), (1, 0, 1, ())])
        line.deliver(4)
        self.assertEqual(line.owed(0), [(3, 1, 1), (2, 1, 1)])
        line.deliver(3)
        self.assertEqual(line.owed(0), [(3, 1, 1), (2, 1, 1)])

    def test_it_bears_what_was_sent_even_behind_a_cut(self):
        line = three_gives()
        line.cut(0)
        line.double(2)
        self.assertEqual(line.flying(), GIVES + [GIVES[1]])

    def test_up_to_eighty(self):
        line = full_line()
        parcels = line.flying()
        for place in (1, 40, 80):
            self.assertEqual(line.double(place), [-4])
        line.lose(80)
        self.assertEqual(line.double(80), [-5])
        self.assertEqual(line.double(79), [0])
        self.assertEqual(line.flying(), parcels[:79] + [parcels[78]])
        self.assertEqual(line.double(79), [-4])

    def test_neither_asks_nor_backs_are_taken_twice(self):
        line = Line(1, 2, 2, [4])
        line.give(2, 1, 0, 2, 3)
        line.calm(60)
        line.back(2, 1, 0, 1, 2)
        line.ask(1, 1, 0, 2, 4)
        line.sync(2)
        line.sync(1)
        line.double(1)
        line.double(2)
        line.deliver_all()
        self.assertEqual(line.stocks(0, 1, 2), [3, 1])
        self.assertEqual(line.waits(), [(1, 1, 1, 0, 2, 4, 1, 1)])


if __name__ == "__main__":
    unittest.main()
