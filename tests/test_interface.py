"""How calls are handed in and answers given back."""

import contextlib
import io
import unittest

from roomrights.net import answers
from tests.helper import FAR, Line, opening, split_answers

LONG_LINE = (
    opening(2, 4, 2, [3, 2])
    + [1, 1, 1, 0, 4, 2]
    + [5, 0, 1, 0, 2]
    + [10, 0]
    + [13, 1]
    + [5, 1, 1, 0, 1]
    + [3, 2, 1, 0, 4, 2]
    + [10, 2]
    + [13, 1]
    + [10, 0]
    + [13, 1]
    + [7, 1, 1, 1, 0, 1]
    + [10, 1]
    + [12, 1]
    + [13, 80]
)


class Interface(unittest.TestCase):
    def test_each_answer_stands_behind_how_many_numbers_it_has(self):
        self.assertEqual(
            answers(LONG_LINE),
            [1, 0]
            + [1, 0]
            + [2, 0, 1]
            + [4, 0, 1, 1, 0]
            + [1, 0]
            + [2, 0, 1]
            + [2, 0, 1]
            + [3, 0, 0, 0]
            + [1, 0]
            + [3, 0, 0, 0]
            + [1, 0]
            + [2, 0, 2]
            + [4, 0, 1, 2, 0]
            + [2, 0, 4]
            + [1, -5],
        )

    def test_what_is_handed_in_stays_as_it_was(self):
        calls = list(LONG_LINE)
        answers(calls)
        self.assertEqual(calls, LONG_LINE)

    def test_nothing_is_kept_from_one_time_to_the_next(self):
        first = answers(list(LONG_LINE))
        self.assertEqual(answers([5, 0, 1, 0, 1]), [1, -2])
        self.assertEqual(answers(list(LONG_LINE)), first)

    def test_an_answer_can_be_altered_without_harm(self):
        first = answers(LONG_LINE)
        kept = list(first)
        first.clear()
        self.assertEqual(answers(LONG_LINE), kept)

    def test_answers_are_a_list_of_whole_numbers(self):
        given = answers(LONG_LINE)
        self.assertIs(type(given), list)
        self.assertEqual({type(number) for number in given}, {int})

    def test_nothing_is_printed(self):
        said = io.StringIO()
        with contextlib.redirect_stdout(said), contextlib.redirect_stderr(said):
            answers(LONG_LINE)
        self.assertEqual(said.getvalue(), "")

    def test_a_line_of_300_calls(self):
        calls = opening(1, 1, 1, [30]) + [5, 0, 1, 0, 1] * 299
        split = split_answers(answers(calls))
        self.assertEqual(len(split), 300)
        self.assertEqual(split[1:31], [[0, number] for number in range(1, 31)])
        self.assertEqual(split[31:], [[-3]] * 269)

    def test_the_row_of_open_ends_where_its_count_says(self):
        rows = ([], [1], [1, 2], [FAR] * 20, [-FAR] * 20)
        for rooms in rows:
            line = Line()
            line.open(1, 1, 1, rooms)
            self.assertEqual(line.open(1, 1, 1, [1]), [0])
            self.assertEqual(line.sell(0, 1, 0, 1), [0, 1])


if __name__ == "__main__":
    unittest.main()
