"""How calls and answers are laid out, and what a call of answers leaves alone."""

import unittest

from seenareas.world import answers
from tests.helper import (
    CLEAR, HIGH, MIRROR, STATE, TICK, around, changes, drop, enters, feed, flat, join, leaves, line, make, make_row, move,
    part, rank, sees, sent, set_value, split, stream, thing, told, unwall, waits, wall,
)

MUTATORS = (
    "__delitem__", "__iadd__", "__imul__", "__setitem__",
    "append", "clear", "extend", "insert", "pop", "remove", "reverse", "sort",
)


class ReadOnly(list):
    """A list that no one may change, not for a while either."""


def refuse(*arguments, **keywords):
    raise AssertionError("what is handed in was to be changed")


for name in MUTATORS:
    setattr(ReadOnly, name, refuse)


def some_calls():
    return flat(each_call())


def each_call():
    """All calls, with refusals among them."""
    calls = [make(0), make(1, 3, 4, 5), make_row(2, 0, []), make(3, kind=8), rank(5, 7), wall(1, 1, 2, 2), unwall(1)]
    calls += [join(4, 0), join(2, 1, team=2, budget=64), TICK, sent(4), move(1, 4, 4), set_value(1, 3, -9)]
    calls += [thing(1), thing(7), sees(4), waits(4), told(4), STATE, around(0, 0, 5), around(0, 0, -1)]
    calls += [line(0, 3, 3, 0), line(9, 9, 9, 9), line(0, 0, 0, HIGH), MIRROR, feed(stream(1, enters(3), enters(4, 9)))]
    calls += [feed(stream(2, changes(3, {7: -5}), leaves(4))), feed([2, 0]), feed([]), feed([-1]), feed([3, 1, 3, 4])]
    calls += [MIRROR, sees(2), waits(2), told(2), sees(9), waits(9), told(9)]
    calls += [drop(0), TICK, sent(2), sent(4), part(2), sent(2), TICK, unwall(0), drop(HIGH)]
    return calls + [CLEAR, MIRROR, STATE, feed([1, 0])]


class Layout(unittest.TestCase):
    def test_each_answer_behind_how_many_numbers_it_has(self):
        calls = [0, 7, 1, 8, 0, 0, 0, 0, 0, 0, 0, 0, 4, 1, 1, 1, 1, 4, 2, 2, 2, 2, 7, 3, 7, 0, 0, 0, 64, 10, 3, 9, 10, 3]
        told = [1, 1, 1, 7, 1, 0, 0, 0, 0, 0, 0, 0, 0]
        self.assertEqual(answers(calls), [1, 0, 1, 0, 1, 1, 1, 0, 1, 0, 5, 0, 1, 3, 13, 0, 14, 0, *told])

    def test_a_refusal_is_its_number_alone(self):
        self.assertEqual(answers([1, 5, 5, 0, 8, 0, 10, 0, 3, 0, 9, 9]), [1, -1] * 5)
        self.assertEqual(answers([6, 8, 0]), [1, -2])

    def test_a_row_of_any_length_is_gone_past(self):
        for how_many in range(11):
            answer = [1, 0] if how_many == 8 else [1, -2]
            self.assertEqual(answers([0, 1, 2, how_many, *[9] * how_many, 9]), [*answer, 2, 0, 1])

    def test_the_numbers_of_a_row_are_not_taken_for_calls(self):
        self.assertEqual(answers([0, 9, 9, 3, 9, 9, 9, 9, 9]), [1, -2, 2, 0, 1, 2, 0, 2])

    def test_the_answers_of_asking_calls(self):
        calls = [0, 7, 1, 8, 65, 0, 0, 0, 0, 0, 0, -2, 7, 3, 7, 0, 0, 0, 64, 4, 5, 5, 9, 5, 9]
        start = [1, 0, 1, 0, 1, 0, 5, 0, 1, 3, 14, 0]
        full = [7, 1, 65, 0, 0, 0, 0, 0, 0, -2]
        self.assertEqual(answers(calls), start)
        asked = [11, 3, 12, 3, 13, 3, 14, 60, 0, 5, 15, 5, 0, 5, 10, 15, 0, 0, 0, 0, 19, 7, 20]
        told = [5, 0, 1, 7, 1, 7, 1, 0, 12, 0, 1, *full, 2, 0, 7, 5, 0, 1, 0, 1, 2, 2, 0, 0, 10, 0, *full[1:]]
        self.assertEqual(answers(calls + asked), start + told + [6, 0, 1, 1, 1, 1, 3])

    def test_the_answers_of_calls_on_the_mirror(self):
        calls = [17, 16, 2, 4, 0, 17, 16, 13, 5, 1, 1, 7, 0, 1, 2, 0, 0, 0, 0, 0, 0, 17, 16, 0, 18, 17]
        told = [3, 0, 0, 0, 2, 0, 0, 3, 0, 4, 0, 2, 0, 1, 13, 0, 5, 1, 7, 0, -1, 1, 0, 0, 0, 0, 0, 0, 1, -6, 1, 0]
        self.assertEqual(answers(calls), told + [3, 0, 0, 0])

    def test_a_row_of_feed_of_any_length_is_gone_past(self):
        for how_many in (0, 1, 2, 3, 127, 128, 300, 5000):
            answer = [2, 0, 0] if how_many == 2 else [1, -6]
            self.assertEqual(answers([16, how_many, *[9, 0, *[9] * how_many][:how_many], 9]), [*answer, 2, 0, 1])

    def test_a_list_of_30000_numbers(self):
        calls = [16, 5000, *[9] * 5000] * 5 + [16, 4988, *[9] * 4988]
        self.assertEqual(len(calls), 30000)
        self.assertEqual(answers(calls), [1, -6] * 6)

    def test_the_calls_tried_below_are_all_there_are(self):
        self.assertEqual({call[0] for call in each_call()}, set(range(21)))
        self.assertEqual(len(split(answers(some_calls()))), len(each_call()))
        first = {answer[0] for answer in split(answers(some_calls()))}
        self.assertLessEqual({0, -1, -2, -6, -7, -8}, first)

    def test_it_gives_back_a_list_of_whole_numbers(self):
        given = answers(some_calls())
        self.assertIs(type(given), list)
        self.assertEqual({type(number) for number in given}, {int})

    def test_300_calls(self):
        self.assertEqual(answers([1, 1] * 300), [1, -1] * 300)


class LeftAlone(unittest.TestCase):
    def test_the_list_handed_in_is_the_same_afterwards(self):
        calls = some_calls()
        answers(calls)
        self.assertEqual(calls, some_calls())

    def test_it_is_not_changed_for_a_while_either(self):
        self.assertEqual(answers(ReadOnly(some_calls())), answers(some_calls()))

    def test_a_second_call_answers_as_the_first_did(self):
        first = answers(some_calls())
        kept = list(first)
        self.assertEqual(answers(some_calls()), kept)
        first.clear()
        self.assertEqual(answers(some_calls()), kept)

    def test_another_call_between_leaves_nothing_behind(self):
        first = answers(some_calls())
        answers(flat([make(9), rank(0, 100), rank(5, 100), wall(0, 0, 9, 9), join(4, 9), TICK, feed(stream(8, enters(3)))]))
        self.assertEqual(answers(some_calls()), first)


if __name__ == "__main__":
    unittest.main()
