"""How calls are handed in and answers given back."""

import contextlib
import io
import unittest

from roomrights.net import answers
from tests.helper import FAR, Line, opening, split_answers

# Every call at least once, each with what it answers.
ANSWERED = (
    (opening(2, 4, 2, [3, 2]), [0]),
    ([1, 1, 1, 0, 4, 2], [0]),
    ([5, 0, 1, 0, 2], [0, 1]),
    ([10, 0], [0, 1, 1, 0]),
    ([15, 1], [0]),
    ([22], [0, 2] + [0, 1, 1, 6, 1, 0, 1, 0, 4, 2] * 2),
    ([13, 1], [0]),
    ([14, 1], [0]),
    ([24], [0, 0]),
    ([5, 1, 1, 0, 1], [0, 1]),
    ([3, 2, 1, 0, 4, 2], [0, 1]),
    ([10, 2], [0, 0, 0]),
    ([13, 1], [0]),
    ([20], [0, 2, 1, 1, 0, 4, 2, 1, 1]),
    ([17, 1, 0], [0, 3, 0, 1, 0, 1, 1, 0, 0, 0, 0]),
    ([8, 2, 1, 3, 1], [0, 2]),
    ([10, 0], [0, 0, 0]),
    ([11, 2], [0]),
    ([13, 1], [0]),
    ([7, 1, 1, 1, 0, 1], [0, 2]),
    ([10, 1], [0, 1, 2, 0]),
    ([22], [0, 6] + [0, 2, 1, 0] + [1, 0, 1, 5, 7, 1, 1, 0, 1] + [1, 0, 2, 8, 4, 1, 1, 0, 1, 2, 2, 2]
        + [1, 0, 3, 5, 8, 1, 1, 0, 1] + [1, 0, 4, 5, 7, 2, 1, 0, 1] + [1, 0, 2, 0]),
    ([12, 1], [0, 4]),
    ([23, 0], [0, 3, 1, 2, 1, 2, 0]),
    ([19, 2], [0, 1, 1, 0, 4, 2, 0]),
    ([4, 2, 1], [0]),
    ([16, 2], [0, 0]),
    ([16, 60], [0, 1]),
    ([21, 1], [0, 2, 1, 0, 1]),
    ([18, 1], [0, 2, 1, 0, 1]),
    ([26, 0], [0, 1, 1, 0, 2]),
    ([25, 1], [0, 0, 1, 0, 2, 1, 1, 2, 0, 1, 2]),
    ([25, 2], [0, 3, 2, 1, 3, 1]),
    ([2, 1, 1, 2, 3, 1], [-3]),
    ([6, 0, 1], [0]),
    ([9, 2], [0]),
    ([17, 1, 2], [0, 3, 3, 0, 0, 0, 0, 0, 0, 0, 0]),
    ([13, 80], [-5]),
)
LONG_LINE = [number for call, answer in ANSWERED for number in call]
# How many numbers each call from give on has.
AMOUNTS = (5, 5, 5, 2, 4, 2, 5, 4, 1, 1, 1, 1, 1, 1, 1, 1, 2, 1, 1, 0, 1, 0, 1, 0, 1, 1)


class Sealed(list):
    """A list that can't be changed, not even for a while."""

    def refuse(self, *given, **named):
        raise AssertionError("the list that was handed in was to be changed")

    append = extend = insert = remove = pop = clear = sort = reverse = refuse
    __setitem__ = __delitem__ = __iadd__ = __imul__ = refuse


class Interface(unittest.TestCase):
    def test_each_answer_stands_behind_how_many_numbers_it_has(self):
        expected = [number for call, answer in ANSWERED for number in [len(answer)] + answer]
        self.assertEqual(answers(LONG_LINE), expected)

    def test_every_call_is_among_them(self):
        self.assertEqual(sorted({call[0] for call, answer in ANSWERED}), list(range(27)))

    def test_what_is_handed_in_stays_as_it_was(self):
        calls = list(LONG_LINE)
        answers(calls)
        self.assertEqual(calls, LONG_LINE)
        self.assertEqual(answers(Sealed(LONG_LINE)), answers(calls))

    def test_nothing_is_kept_from_one_time_to_the_next(self):
        first = answers(list(LONG_LINE))
        self.assertEqual(answers([5, 0, 1, 0, 1]), [1, -2])
        self.assertEqual(answers(list(LONG_LINE)), first)

    def test_an_answer_can_be_altered_without_harm(self):
        first = answers(LONG_LINE)
        kept = list(first)
        first.clear()
        self.assertEqual(answers(LONG_LINE), kept)

    def test_answers_are_a_list_of_whole_numbers(self):
        given = answers(LONG_LINE)
        self.assertIs(type(given), list)
        self.assertEqual({type(number) for number in given}, {int})

    def test_nothing_is_printed(self):
        said = io.StringIO()
        with contextlib.redirect_stdout(said), contextlib.redirect_stderr(said):
            answers(LONG_LINE)
        self.assertEqual(said.getvalue(), "")

    def test_a_line_of_300_calls(self):
        calls = opening(1, 1, 1, [30]) + [5, 0, 1, 0, 1] * 299
        split = split_answers(answers(calls))
        self.assertEqual(len(split), 300)
        self.assertEqual(split[1:31], [[0, number] for number in range(1, 31)])
        self.assertEqual(split[31:], [[-3]] * 269)

    def test_a_line_whose_answers_are_nearly_a_million_numbers(self):
        calls = opening(1, 21, 5, [30])
        for night in range(21):
            calls.extend([8, 1, night, night + 1, 30])
        split = split_answers(answers(calls + [25, 1] * 278))
        self.assertEqual({len(answer) for answer in split[22:]}, {1 + 5 * 630})
        self.assertEqual(split[22], split[-1])

    def test_any_call_may_come_first(self):
        for place, amount in enumerate(AMOUNTS, start=1):
            calls = [place] + [1] * amount + LONG_LINE
            self.assertEqual(answers(calls), [1, -2] + answers(LONG_LINE), place)

    def test_the_row_of_open_ends_where_its_count_says(self):
        rows = ([], [1], [1, 2], [FAR] * 20, [-FAR] * 20)
        for rooms in rows:
            line = Line()
            line.open(1, 1, 1, rooms)
            self.assertEqual(line.open(1, 1, 1, [1]), [0])
            self.assertEqual(line.sell(0, 1, 0, 1), [0, 1])


if __name__ == "__main__":
    unittest.main()
