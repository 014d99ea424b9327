"""Refusals: which there are, in which order, and that they change nothing."""

import unittest

from roomrights.net import answers
from tests.helper import FAR, Line, all_looks, opening, split_answers

# For each call but open its numbers in the small hotel below, each with the least and the greatest one.
AGENT = (1, 3)
NODE = (0, 3)
KIND = (1, 2)
FIRST = (0, 4)
ROOMS = (1, 30)
NUMBER = (1, 1000000)
SHAPES = {
    1: (AGENT, KIND, FIRST, "behind", ROOMS),
    2: (AGENT, KIND, FIRST, "behind", ROOMS),
    3: (AGENT, KIND, FIRST, "behind", ROOMS),
    4: (AGENT, (1, 40)),
    5: (NODE, KIND, FIRST, "behind"),
    6: (NODE, NUMBER),
    7: (NODE, NUMBER, KIND, FIRST, "behind"),
    8: (KIND, FIRST, "behind", ROOMS),
    9: (NUMBER,),
    10: (NODE,),
    11: (NODE,),
    12: (NODE,),
    13: ((1, 80),),
    14: ((1, 80),),
    15: ((1, 80),),
    16: ((1, 60),),
    17: (KIND, FIRST),
    18: (NODE,),
    19: (AGENT,),
    20: (),
    21: (AGENT,),
    22: (),
    23: (NODE,),
    24: (),
    25: (KIND,),
    26: (NODE,),
}
SMALL = opening(2, 5, 3, [3, 4])


def plain_call(place):
    """A call with all numbers in their ranges."""
    numbers = []
    for bounds in SHAPES[place]:
        numbers.append(numbers[-1] + 1 if bounds == "behind" else bounds[0])
    return [place] + numbers


def answer_behind(calls, call):
    return split_answers(answers(calls + call))[-1]


class NothingOpen(unittest.TestCase):
    def test_every_call_before_open(self):
        for place in SHAPES:
            self.assertEqual(answers(plain_call(place)), [1, -2], place)

    def test_it_comes_ahead_of_a_number_out_of_range(self):
        for place in SHAPES:
            for number in (-FAR, -1, 0, FAR):
                call = [place] + [number] * len(SHAPES[place])
                self.assertEqual(answers(call), [1, -2], call)

    def test_behind_an_open_that_was_refused(self):
        for place in SHAPES:
            self.assertEqual(answer_behind(opening(5, 5, 3, [3, 4]), plain_call(place)), [-2], place)


class Ranges(unittest.TestCase):
    def each_bound(self):
        """Each call and place of a number in it, with the least and the greatest number there."""
        for place, shape in SHAPES.items():
            call = plain_call(place)
            for spot, bounds in enumerate(shape, start=1):
                if bounds == "behind":
                    bounds = (call[spot - 1] + 1, 5)
                yield call, spot, bounds

    def with_number(self, call, spot, number):
        shape = SHAPES[call[0]]
        changed = call[:spot] + [number] + call[spot + 1:]
        if spot < len(shape) and shape[spot] == "behind" and 0 <= number <= 4:
            changed[spot + 1] = number + 1
        return changed

    def test_the_least_and_the_greatest_are_in_range(self):
        for call, spot, bounds in self.each_bound():
            for number in bounds:
                changed = self.with_number(call, spot, number)
                self.assertNotEqual(answer_behind(SMALL, changed), [-1], changed)

    def test_less_and_more_are_out_of_range(self):
        for call, spot, bounds in self.each_bound():
            for number in (bounds[0] - 1, bounds[1] + 1, -FAR, FAR, 1 - FAR, FAR - 1):
                changed = self.with_number(call, spot, number)
                self.assertEqual(answer_behind(SMALL, changed), [-1], changed)

    def test_the_night_behind_must_be_above_the_first(self):
        for place, shape in SHAPES.items():
            if "behind" not in shape:
                continue
            spot = 1 + shape.index("behind")
            for first in range(5):
                for behind in range(-1, 8):
                    call = plain_call(place)
                    call[spot - 1] = first
                    call[spot] = behind
                    refused = answer_behind(SMALL, call) == [-1]
                    self.assertEqual(refused, not first < behind <= 5, call)

    def test_a_night_behind_above_a_first_night_out_of_range(self):
        for place, shape in SHAPES.items():
            if "behind" in shape:
                spot = 1 + shape.index("behind")
                for first, behind in ((-2, -1), (-1, 1), (5, 6), (-FAR, FAR), (FAR - 1, FAR)):
                    call = plain_call(place)
                    call[spot - 1] = first
                    call[spot] = behind
                    self.assertEqual(answer_behind(SMALL, call), [-1], call)

    def test_bounds_follow_what_is_open(self):
        least = opening(1, 1, 1, [30])
        most = opening(4, 21, 5, [30, 30, 30, 30])
        self.assertEqual(answer_behind(least, [5, 0, 1, 0, 1]), [0, 1])
        self.assertEqual(answer_behind(least, [5, 0, 2, 0, 1]), [-1])
        self.assertEqual(answer_behind(least, [5, 0, 1, 0, 2]), [-1])
        self.assertEqual(answer_behind(least, [5, 0, 1, 1, 2]), [-1])
        self.assertEqual(answer_behind(least, [1, 2, 1, 0, 1, 1]), [-1])
        self.assertEqual(answer_behind(least, [10, 1]), [0, 0, 0])
        self.assertEqual(answer_behind(least, [10, 2]), [-1])
        self.assertEqual(answer_behind(most, [1, 5, 4, 20, 21, 30]), [0])
        self.assertEqual(answer_behind(most, [1, 5, 4, 0, 21, 30]), [0])
        self.assertEqual(answer_behind(most, [1, 6, 4, 0, 21, 30]), [-1])
        self.assertEqual(answer_behind(most, [1, 5, 5, 0, 21, 30]), [-1])
        self.assertEqual(answer_behind(most, [1, 5, 4, 0, 22, 30]), [-1])
        self.assertEqual(answer_behind(most, [1, 5, 4, 21, 22, 30]), [-1])
        self.assertEqual(answer_behind(most, [10, 5]), [0, 0, 0])
        self.assertEqual(answer_behind(most, [10, 6]), [-1])
        for place in (18, 23, 26):
            self.assertEqual(answer_behind(least, [place, 1])[0], 0)
            self.assertEqual(answer_behind(least, [place, 2]), [-1])
            self.assertEqual(answer_behind(most, [place, 5])[0], 0)
            self.assertEqual(answer_behind(most, [place, 6]), [-1])
        for place in (19, 21):
            self.assertEqual(answer_behind(least, [place, 1]), [0])
            self.assertEqual(answer_behind(least, [place, 2]), [-1])
            self.assertEqual(answer_behind(most, [place, 5]), [0])
            self.assertEqual(answer_behind(most, [place, 6]), [-1])
        self.assertEqual(answer_behind(least, [17, 1, 0]), [0, 30, 30, 0, 0, 0, 0, 0])
        self.assertEqual(answer_behind(least, [17, 1, 1]), [-1])
        self.assertEqual(answer_behind(least, [17, 2, 0]), [-1])
        self.assertEqual(answer_behind(most, [17, 4, 20]), [0, 30, 30, 0, 0] + [0, 0, 0] * 5)
        self.assertEqual(answer_behind(most, [17, 4, 21]), [-1])
        self.assertEqual(answer_behind(most, [17, 5, 20]), [-1])
        self.assertEqual(answer_behind(least, [25, 1]), [0])
        self.assertEqual(answer_behind(least, [25, 2]), [-1])
        self.assertEqual(answer_behind(most, [25, 4]), [0])
        self.assertEqual(answer_behind(most, [25, 5]), [-1])

    def test_calls_without_numbers(self):
        for place, answer in ((20, [0]), (22, [0, 0]), (24, [0, 1])):
            self.assertEqual(answers([place]), [1, -2])
            self.assertEqual(answer_behind([place] + SMALL, [place]), answer)
            self.assertEqual(answer_behind(opening(1, 1, 6, [1]), [place]), [-2])

    def test_out_of_range_comes_ahead_of_the_other_refusals(self):
        self.assertEqual(answer_behind(SMALL, [1, 1, 1, 0, 5, 31]), [-1])
        self.assertEqual(answer_behind(SMALL, [2, 1, 1, 0, 5, 31]), [-1])
        self.assertEqual(answer_behind(SMALL, [3, 1, 1, 0, 5, 1] * 2 + [3, 1, 1, 0, 6, 1]), [-1])
        self.assertEqual(answer_behind(SMALL, [4, 1, 41]), [-1])
        self.assertEqual(answer_behind(SMALL, [5, 1, 1, 0, 6]), [-1])
        self.assertEqual(answer_behind(SMALL, [6, 1, 0]), [-1])
        self.assertEqual(answer_behind(SMALL, [7, 1, 1, 1, 0, 6]), [-1])
        self.assertEqual(answer_behind(SMALL, [8, 1, 0, 6, 30]), [-1])
        self.assertEqual(answer_behind(SMALL, [9, 0]), [-1])
        for place in (13, 14, 15):
            self.assertEqual(answer_behind(SMALL, [place, 0]), [-1])
            self.assertEqual(answer_behind(SMALL, [place, 80]), [-5])
            self.assertEqual(answer_behind(SMALL, [place, 81]), [-1])


class Opening(unittest.TestCase):
    def test_the_edges(self):
        accepted = (
            (1, 1, 1, [0]),
            (1, 21, 5, [30]),
            (4, 1, 5, [0, 30, 0, 30]),
            (4, 21, 1, [30, 30, 30, 30]),
        )
        for numbers in accepted:
            self.assertEqual(answers(opening(*numbers)), [1, 0], numbers)

    def test_out_of_range(self):
        refused = [(0, 5, 3, []), (0, 5, 3, [1]), (5, 5, 3, [1] * 5), (-1, 5, 3, []), (20, 5, 3, [1] * 20)]
        for number in (-FAR, -1, 0, 22, FAR):
            refused.append((2, number, 3, [3, 4]))
        for number in (-FAR, -1, 0, 6, FAR):
            refused.append((2, 5, number, [3, 4]))
        for number in (-FAR, -1, 31, FAR):
            refused.append((2, 5, 3, [number, 4]))
            refused.append((2, 5, 3, [3, number]))
        for number in (-FAR, FAR):
            refused.append((number, 5, 3, [3, 4]))
        for numbers in refused:
            self.assertEqual(answers(opening(*numbers)), [1, -1], numbers)

    def test_fewer_or_more_rooms_than_kinds(self):
        for kinds in range(1, 5):
            for amount in range(0, 21):
                expected = 0 if amount == kinds else -1
                self.assertEqual(answers(opening(kinds, 5, 3, [7] * amount)), [1, expected])

    def test_a_refused_one_leaves_what_is_open(self):
        line = Line(1, 3, 2, [2])
        line.sell(0, 1, 0, 3)
        self.assertEqual(line.open(1, 3, 2, [31]), [-1])
        self.assertEqual(line.open(1, 3, 2, []), [-1])
        self.assertEqual(line.sell(0, 1, 0, 3), [0, 2])
        self.assertEqual(line.sell(0, 1, 0, 3), [-3])

    def test_a_second_one_makes_all_new(self):
        line = Line(2, 4, 3, [3, 3])
        line.give(1, 1, 0, 4, 2)
        line.ask(2, 2, 0, 4, 3)
        line.sell(0, 1, 0, 4)
        line.shut(2, 0, 2, 1)
        for node in range(4):
            line.sync(node)
        self.assertEqual(line.under_way(), 2)
        self.assertEqual(line.open(1, 2, 1, [5]), [0])
        self.assertEqual(line.under_way(), 0)
        self.assertEqual(line.again(0), [0, 0])
        self.assertEqual(line.cut(0), [0])
        self.assertEqual(line.stocks(0, 1, 2), [5, 5])
        self.assertEqual(line.stocks(1, 1, 2), [0, 0])
        self.assertEqual(line.bookings(0), [])
        self.assertEqual(line.shut_spans(), [])
        self.assertEqual(line.waiting(1), [])
        self.assertEqual(line.sync(2), [-1])
        self.assertEqual(line.sell(0, 2, 0, 1), [-1])
        self.assertEqual(line.sell(0, 1, 0, 3), [-1])
        self.assertEqual(line.sell(0, 1, 0, 1), [0, 1])
        self.assertEqual(line.ask(1, 1, 0, 1, 1), [0, 1])
        self.assertEqual(line.sync(1), [0, 0, 0])
        self.assertEqual(line.deliver(1), [0])
        self.assertEqual(line.sync(0), [0, 1, 1, 0])
        self.assertEqual(line.deliver(1), [0])
        self.assertEqual(line.stocks(1, 1, 2), [1, 0])


class Order(unittest.TestCase):
    def test_sell_without_room_for_a_booking_comes_ahead_of_no_stock(self):
        line = Line(2, 2, 1, [30, 30])
        for turn in range(30):
            line.sell(0, 1, 0, 1)
        self.assertEqual(line.sell(0, 1, 0, 1), [-3])
        for turn in range(10):
            line.sell(0, 1, 1, 2)
        self.assertEqual(line.sell(0, 1, 0, 1), [-4])

    def test_shut_without_stock_comes_ahead_of_no_room_for_a_span(self):
        line = Line(2, 2, 1, [30, 30])
        for turn in range(30):
            line.shut(1, 0, 1, 1)
        for turn in range(10):
            line.shut(1, 1, 2, 1)
        self.assertEqual(line.shut(1, 1, 2, 1), [-4])
        self.assertEqual(line.shut(1, 0, 1, 1), [-3])

    def test_change_of_no_booking_comes_ahead_of_no_stock(self):
        line = Line(2, 2, 1, [1, 0])
        line.sell(0, 1, 0, 1)
        self.assertEqual(line.change(0, 2, 2, 0, 1), [-5])
        self.assertEqual(line.change(0, 1, 2, 0, 1), [-3])

    def test_double_of_no_message_and_without_room(self):
        line = Line(1, 1, 1, [1])
        line.give(1, 1, 0, 1, 1)
        line.sync(0)
        for turn in range(78):
            self.assertEqual(line.double(1), [0])
        self.assertEqual(line.double(80), [-5])
        self.assertEqual(line.double(79), [0])
        for place in (0, 81, -FAR, FAR):
            self.assertEqual(line.double(place), [-1])
        for place in (1, 40, 80):
            self.assertEqual(line.double(place), [-4])


class NothingChanges(unittest.TestCase):
    BEFORE = (
        opening(2, 5, 3, [4, 2])
        + [1, 1, 1, 0, 5, 2]
        + [1, 2, 2, 1, 3, 1]
        + [5, 0, 1, 0, 2]
        + [8, 1, 3, 5, 1]
        + [10, 0]
        + [13, 1]
        + [5, 1, 1, 0, 3]
        + [3, 3, 1, 0, 5, 4]
        + [10, 3]
        + [13, 2]
        + [10, 0]
        + [3, 3, 2, 0, 5, 3]
    )
    LOOKS = sum([list(look) for look in all_looks(2, 5, 3)], [])
    BEHIND = (
        LOOKS
        + [5, 0, 1, 2, 3]
        + [6, 0, 1]
        + [7, 1, 1, 1, 1, 4]
        + [12, 0]
        + [10, 0]
        + [12, 0]
        + [10, 1]
        + [12, 1]
        + [10, 2]
        + [10, 3]
        + [13, 1] * 30
        + [15, 2]
        + [14, 1]
        + [10, 0]
        + [10, 1]
        + [10, 2]
        + [10, 3]
        + [13, 1] * 20
        + [9, 2]
        + [4, 3, 2]
        + [10, 3]
        + [13, 1]
        + [10, 0]
        + [12, 0]
        + [16, 2]
        + LOOKS
    )
    REFUSED = (
        (opening(2, 5, 6, [4, 2]), -1),
        (opening(2, 5, 3, [4]), -1),
        ([1, 4, 1, 0, 5, 1], -1),
        ([1, 1, 1, 0, 5, 3], -3),
        ([2, 1, 1, 0, 5, 0], -1),
        ([2, 1, 1, 0, 5, 2], -3),
        ([2, 2, 2, 1, 3, 1], -3),
        ([3, 3, 1, 0, 5, 1], -4),
        ([3, 3, 1, 0, 6, 1], -1),
        ([4, 3, 3], -5),
        ([4, 1, 1], -5),
        ([5, 2, 2, 1, 2], -3),
        ([5, 4, 2, 1, 2], -1),
        ([6, 0, 2], -5),
        ([6, 1, 2], -5),
        ([7, 0, 2, 1, 0, 1], -5),
        ([7, 0, 1, 1, 0, 6], -1),
        ([7, 1, 1, 2, 0, 1], -3),
        ([7, 1, 1, 2, 3, 5], -3),
        ([8, 1, 0, 5, 2], -3),
        ([9, 1], -5),
        ([9, 3], -5),
        ([10, 4], -1),
        ([11, -1], -1),
        ([12, 4], -1),
        ([13, 50], -5),
        ([13, 81], -1),
        ([14, 50], -5),
        ([14, 0], -1),
        ([15, 50], -5),
        ([15, 81], -1),
        ([16, 0], -1),
        ([16, 61], -1),
        ([17, 3, 0], -1),
        ([17, 1, 5], -1),
        ([18, 4], -1),
        ([19, 0], -1),
        ([21, 4], -1),
        ([23, -1], -1),
        ([25, 0], -1),
        ([26, 4], -1),
    )

    def test_the_calls_behind_a_refused_one_answer_as_without_it(self):
        before = answers(self.BEFORE)
        behind = answers(self.BEFORE + self.BEHIND)[len(before):]
        for call, refusal in self.REFUSED:
            with_it = answers(self.BEFORE + call + self.BEHIND)
            self.assertEqual(with_it, before + [1, refusal] + behind, call)

    def test_a_refused_double_puts_nothing_on_a_full_net(self):
        line = Line(1, 2, 1, [30])
        for turn in range(20):
            line.give(1, 1, 0, 2, 1)
        line.sync(0)
        for turn in range(3):
            line.again(0)
        before = line.everything()
        self.assertEqual(line.double(7), [-4])
        self.assertEqual(line.everything(), before)

    def test_a_refused_call_uses_no_number(self):
        line = Line(1, 2, 1, [1])
        self.assertEqual(line.sell(0, 1, 0, 2), [0, 1])
        self.assertEqual(line.sell(0, 1, 0, 2), [-3])
        self.assertEqual(line.shut(1, 0, 2, 1), [-3])
        self.assertEqual(line.change(0, 9, 1, 0, 1), [-5])
        self.assertEqual(line.change(0, 1, 1, 0, 1), [0, 2])
        self.assertEqual(line.shut(1, 1, 2, 1), [0, 3])
        self.assertEqual(line.change(0, 2, 1, 1, 2), [-3])
        self.assertEqual(line.bookings(0), [2])
        self.assertEqual(line.cancel(0, 2), [0])
        self.assertEqual(line.sell(0, 1, 0, 1), [0, 4])


if __name__ == "__main__":
    unittest.main()
