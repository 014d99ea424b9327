"""Rooms laid for the stays of a kind."""

import unittest

from tests.helper import Line


class Rooming(unittest.TestCase):
    def test_empty(self):
        line = Line(2, 3, 2, [3, 0])
        self.assertEqual(line.look(25, 1), [0])
        self.assertEqual(line.look(25, 2), [0])
        line.sell(0, 1, 0, 1)
        self.assertEqual(line.look(25, 2), [0])

    def test_node_number_nights_and_room(self):
        line = Line(2, 5, 1, [3, 3])
        line.sell(0, 2, 1, 4)
        line.sell(0, 1, 2, 5)
        self.assertEqual(line.look(25, 1), [0, 0, 2, 2, 5, 1])
        self.assertEqual(line.look(25, 2), [0, 0, 1, 1, 4, 1])

    def test_by_the_first_night_then_the_node_then_the_number(self):
        line = Line(1, 4, 3, [12])
        for agent in (1, 2, 3):
            line.give(agent, 1, 0, 4, 2)
        line.calm(60)
        line.shut(1, 1, 4, 1)
        line.shut(1, 0, 4, 1)
        line.sell(0, 1, 1, 3)
        line.sell(0, 1, 0, 4)
        line.sell(0, 1, 1, 2)
        for agent in (3, 2, 1):
            line.sell(agent, 1, 1, 4)
            line.sell(agent, 1, 0, 3)
        self.assertEqual(
            line.rooming(1),
            [
                (0, 4, 0, 4, 1),
                (1, 2, 0, 3, 2),
                (2, 2, 0, 3, 3),
                (3, 2, 0, 3, 4),
                (4, 2, 0, 4, 5),
                (0, 3, 1, 3, 6),
                (0, 5, 1, 2, 7),
                (1, 1, 1, 4, 8),
                (2, 1, 1, 4, 9),
                (3, 1, 1, 4, 10),
                (4, 1, 1, 4, 11),
            ],
        )

    def test_numbers_count_as_numbers_and_nights_behind_do_not_count(self):
        line = Line(1, 4, 1, [12])
        for number in range(1, 12):
            line.sell(0, 1, 0, 4 if number % 2 else 1)
        self.assertEqual([stay[1] for stay in line.rooming(1)], list(range(1, 12)))

    def test_rooms_shut_are_n_stays_of_the_node_behind_the_last_agent(self):
        line = Line(2, 4, 5, [9, 9])
        line.shut(2, 1, 3, 2)
        line.shut(1, 1, 3, 3)
        line.shut(1, 1, 2, 1)
        line.sell(0, 1, 1, 4)
        self.assertEqual(
            line.rooming(1),
            [(0, 4, 1, 4, 1), (6, 2, 1, 3, 2), (6, 2, 1, 3, 3), (6, 2, 1, 3, 4), (6, 3, 1, 2, 5)],
        )
        self.assertEqual(line.rooming(2), [(6, 1, 1, 3, 1), (6, 1, 1, 3, 2)])
        line.reopen(2)
        self.assertEqual(line.rooming(1), [(0, 4, 1, 4, 1), (6, 3, 1, 2, 2)])

    def test_the_least_room_that_is_free(self):
        line = Line(1, 6, 1, [9])
        line.sell(0, 1, 0, 2)
        line.sell(0, 1, 0, 4)
        line.sell(0, 1, 0, 3)
        line.sell(0, 1, 2, 3)
        line.sell(0, 1, 3, 6)
        line.sell(0, 1, 3, 6)
        line.sell(0, 1, 3, 6)
        rooms = [stay[-1] for stay in line.rooming(1)]
        self.assertEqual(rooms, [1, 2, 3, 1, 1, 3, 4])

    def test_a_room_is_free_again_on_the_night_on_which_a_stay_ends(self):
        line = Line(1, 4, 1, [1])
        line.sell(0, 1, 2, 4)
        line.sell(0, 1, 1, 2)
        line.shut(1, 0, 1, 1)
        self.assertEqual(line.rooming(1), [(2, 3, 0, 1, 1), (0, 2, 1, 2, 1), (0, 1, 2, 4, 1)])

    def test_a_room_is_held_up_to_that_night(self):
        line = Line(1, 4, 1, [2])
        line.sell(0, 1, 0, 3)
        line.sell(0, 1, 2, 4)
        self.assertEqual([stay[-1] for stay in line.rooming(1)], [1, 2])

    def test_a_room_taken_again_by_a_short_stay_is_free_when_that_ends(self):
        line = Line(1, 6, 1, [3])
        line.sell(0, 1, 0, 2)
        line.sell(0, 1, 0, 6)
        line.sell(0, 1, 2, 3)
        line.sell(0, 1, 3, 5)
        line.sell(0, 1, 5, 6)
        self.assertEqual([stay[-1] for stay in line.rooming(1)], [1, 2, 1, 1, 1])

    def test_the_nodes_own_books_count_not_what_the_house_was_told(self):
        line = Line(1, 4, 1, [3])
        line.give(1, 1, 0, 4, 2)
        line.calm(60)
        line.sell(1, 1, 0, 2)
        self.assertEqual(line.rooming(1), [(1, 1, 0, 2, 1)])
        line.calm(60)
        line.cancel(1, 1)
        self.assertEqual(line.seen(1), [(1, 1, 0, 2)])
        self.assertEqual(line.rooming(1), [])
        line.cut(1)
        self.assertEqual(line.rooming(1), [(1, 1, 0, 2, 1)])

    def test_all_rooms_of_all_nights(self):
        line = Line(1, 21, 1, [30])
        for night in range(21):
            line.shut(1, night, night + 1, 30)
        expected = [(2, night + 1, night, night + 1, room) for night in range(21) for room in range(1, 31)]
        self.assertEqual(line.rooming(1), expected)


if __name__ == "__main__":
    unittest.main()
