"""make, drop, move, set."""

import unittest

from tests.helper import HIGH, LOW, TICK, drop, join, last, make, make_row, messages_of, move, run, sent, set_value

FAR = 100000
GREAT = 2147483647


def shown(*calls):
    """Kind and values of thing 1 as player 0 is told of it, its own thing at its side."""
    messages = messages_of(last(*calls, join(0, 1), TICK, sent(0)))
    return [message[2:] for message in messages if message[1] == 1]


class Make(unittest.TestCase):
    def test_a_thing_is_there_with_its_kind_and_values(self):
        values = [5, -6, 7, -8, 9, -10, 11, -12]
        self.assertEqual(run(make_row(1, 3, values))[0], [0])
        self.assertEqual(shown(make_row(1, 3, values)), [(3, values)])

    def test_the_least_and_the_greatest_of_each_range(self):
        self.assertEqual(last(make_row(0, 0, [-FAR, -FAR] + [-GREAT] * 6)), [0])
        self.assertEqual(last(make_row(9999, 7, [FAR, FAR] + [GREAT] * 6)), [0])

    def test_a_number_beyond_its_range(self):
        for n in (-1, 10000, LOW, HIGH):
            self.assertEqual(last(make(n)), [-2])
        for kind in (-1, 8, LOW, HIGH):
            self.assertEqual(last(make(1, kind=kind)), [-2])

    def test_each_value_beyond_its_range(self):
        for i in range(8):
            most = FAR if i < 2 else GREAT
            for value in (most + 1, -most - 1, LOW, HIGH):
                values = [0] * 8
                values[i] = value
                self.assertEqual(last(make_row(1, 0, values)), [-2], (i, value))

    def test_a_list_that_has_not_eight_values(self):
        for how_many in (0, 1, 7, 9, 10):
            self.assertEqual(run(make_row(1, 0, [0] * how_many), make(1)), [[-2], [0]])

    def test_a_number_that_is_there(self):
        self.assertEqual(run(make(1), make(1, kind=2)), [[0], [-3]])
        self.assertEqual(shown(make(1, 4, 5), make(1, 6, 7, kind=2)), [(0, [4, 5, 0, 0, 0, 0, 0, 0])])

    def test_64_things_and_one_more(self):
        made = [make(n) for n in range(64)]
        self.assertEqual(run(*made), [[0]] * 64)
        self.assertEqual(last(*made, make(64)), [-4])
        self.assertEqual(last(*made, drop(7), make(64)), [0])

    def test_which_refusal_comes_first(self):
        made = [make(n) for n in range(64)]
        self.assertEqual(last(*made, make(63)), [-3])
        self.assertEqual(last(*made, make(63, kind=8)), [-2])
        self.assertEqual(last(*made, make(10000)), [-2])

    def test_a_refused_thing_is_not_there(self):
        self.assertEqual(run(make_row(1, 0, [FAR + 1] + [0] * 7), drop(1)), [[-2], [-1]])


class Drop(unittest.TestCase):
    def test_the_thing_is_gone(self):
        self.assertEqual(run(make(1), drop(1), drop(1)), [[0], [0], [-1]])
        self.assertEqual(shown(make(1), drop(1)), [])

    def test_only_that_thing_is_gone(self):
        self.assertEqual(run(make(1), make(2), drop(1), drop(2))[2:], [[0], [0]])

    def test_a_thing_made_anew_is_as_it_was_made_then(self):
        self.assertEqual(shown(make(1, 3, 4), drop(1), make(1, 5, 6, kind=7)), [(7, [5, 6, 0, 0, 0, 0, 0, 0])])

    def test_no_such_thing(self):
        for n in (-1, 0, 10000, LOW, HIGH):
            self.assertEqual(last(make(1), drop(n)), [-1])


class Move(unittest.TestCase):
    def test_the_thing_is_there_now(self):
        rest = (1, 2, 3, 4, 5, 6)
        self.assertEqual(last(make(1), move(1, 7, -8)), [0])
        self.assertEqual(shown(make(1, 0, 0, 5, rest), move(1, 7, -8)), [(5, [7, -8, *rest])])

    def test_the_least_and_the_greatest_place(self):
        self.assertEqual(run(make(1), move(1, FAR, FAR), move(1, -FAR, -FAR))[1:], [[0], [0]])

    def test_a_place_beyond_its_range(self):
        for place in (FAR + 1, -FAR - 1, LOW, HIGH):
            self.assertEqual(run(make(1), move(1, place, 0), move(1, 0, place))[1:], [[-2], [-2]])
        self.assertEqual(shown(make(1, 3, 4), move(1, 5, FAR + 1)), [(0, [3, 4, 0, 0, 0, 0, 0, 0])])

    def test_no_such_thing_comes_first(self):
        for n in (-1, 2, LOW, HIGH):
            self.assertEqual(run(make(1), move(n, 0, 0), move(n, HIGH, LOW))[1:], [[-1], [-1]])


class Set(unittest.TestCase):
    def test_each_value(self):
        for i in range(2, 8):
            values = [1, 2, 3, 4, 5, 6, 7, 8]
            calls = [make_row(1, 6, values), set_value(1, i, -70)]
            values[i] = -70
            self.assertEqual(last(*calls), [0])
            self.assertEqual(shown(*calls), [(6, values)])

    def test_the_least_and_the_greatest_value(self):
        self.assertEqual(run(make(1), set_value(1, 2, GREAT), set_value(1, 7, -GREAT))[1:], [[0], [0]])

    def test_a_value_beyond_its_range(self):
        for value in (GREAT + 1, -GREAT - 1, LOW, HIGH):
            self.assertEqual(last(make(1), set_value(1, 2, value)), [-2])

    def test_an_index_beyond_its_range(self):
        for i in (1, 0, -1, 8, LOW, HIGH):
            self.assertEqual(last(make(1), set_value(1, i, 5)), [-2])
            self.assertEqual(shown(make(1), set_value(1, i, 5)), [(0, [0] * 8)])

    def test_no_such_thing_comes_first(self):
        for n in (-1, 2, LOW, HIGH):
            self.assertEqual(run(make(1), set_value(n, 2, 0), set_value(n, 1, HIGH))[1:], [[-1], [-1]])


if __name__ == "__main__":
    unittest.main()
