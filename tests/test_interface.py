"""How calls and answers are laid out, and what a call of answers leaves alone."""

import unittest

from seenareas.world import answers
from tests.helper import HIGH, TICK, drop, flat, join, make, make_row, move, part, rank, sent, set_value, unwall, wall

MUTATORS = (
    "__delitem__", "__iadd__", "__imul__", "__setitem__",
    "append", "clear", "extend", "insert", "pop", "remove", "reverse", "sort",
)


class ReadOnly(list):
    """A list that no one may change, not for a while either."""


def refuse(*arguments, **keywords):
    raise AssertionError("what is handed in was to be changed")


for name in MUTATORS:
    setattr(ReadOnly, name, refuse)


def some_calls():
    calls = [make(0), make(1, 3, 4, 5), make_row(2, 0, []), make(3, kind=8), rank(5, 7), wall(1, 1, 2, 2), unwall(1)]
    calls += [join(4, 0), join(2, 1, team=2, budget=64), TICK, sent(4), move(1, 4, 4), set_value(1, 3, -9)]
    calls += [drop(0), TICK, sent(2), sent(4), part(2), sent(2), TICK, unwall(0), drop(HIGH)]
    return flat(calls)


class Layout(unittest.TestCase):
    def test_each_answer_behind_how_many_numbers_it_has(self):
        calls = [0, 7, 1, 8, 0, 0, 0, 0, 0, 0, 0, 0, 4, 1, 1, 1, 1, 4, 2, 2, 2, 2, 7, 3, 7, 0, 0, 0, 64, 10, 3, 9, 10, 3]
        told = [1, 1, 1, 7, 1, 0, 0, 0, 0, 0, 0, 0, 0]
        self.assertEqual(answers(calls), [1, 0, 1, 0, 1, 1, 1, 0, 1, 0, 5, 0, 1, 3, 13, 0, 14, 0, *told])

    def test_a_refusal_is_its_number_alone(self):
        self.assertEqual(answers([1, 5, 5, 0, 8, 0, 10, 0, 3, 0, 9, 9]), [1, -1] * 5)
        self.assertEqual(answers([6, 8, 0]), [1, -2])

    def test_a_row_of_any_length_is_gone_past(self):
        for how_many in range(11):
            answer = [1, 0] if how_many == 8 else [1, -2]
            self.assertEqual(answers([0, 1, 2, how_many, *[9] * how_many, 9]), [*answer, 2, 0, 1])

    def test_the_numbers_of_a_row_are_not_taken_for_calls(self):
        self.assertEqual(answers([0, 9, 9, 3, 9, 9, 9, 9, 9]), [1, -2, 2, 0, 1, 2, 0, 2])

    def test_it_gives_back_a_list_of_whole_numbers(self):
        given = answers(some_calls())
        self.assertIs(type(given), list)
        self.assertEqual({type(number) for number in given}, {int})

    def test_300_calls(self):
        self.assertEqual(answers([1, 1] * 300), [1, -1] * 300)


class LeftAlone(unittest.TestCase):
    def test_the_list_handed_in_is_the_same_afterwards(self):
        calls = some_calls()
        answers(calls)
        self.assertEqual(calls, some_calls())

    def test_it_is_not_changed_for_a_while_either(self):
        self.assertEqual(answers(ReadOnly(some_calls())), answers(some_calls()))

    def test_a_second_call_answers_as_the_first_did(self):
        first = answers(some_calls())
        kept = list(first)
        self.assertEqual(answers(some_calls()), kept)
        first.clear()
        self.assertEqual(answers(some_calls()), kept)

    def test_another_call_between_leaves_nothing_behind(self):
        first = answers(some_calls())
        answers(flat([make(9), rank(0, 100), rank(5, 100), wall(0, 0, 9, 9), join(4, 9), TICK]))
        self.assertEqual(answers(some_calls()), first)


if __name__ == "__main__":
    unittest.main()
