"""A refusal is one number below 0 alone, and changes nothing, whatever the call."""

import unittest

from tests.helper import (
    HIGH, LOW, MIRROR, STATE, TICK, around, changes, drop, enters, feed, join, leaves, line, make, make_row, move, part,
    rank, run, sees, sent, set_value, stream, thing, told, unwall, waits, wall,
)

PLAYERS = range(0, 80, 10)
SOME_THINGS = (0, 1, 2, 3, 8, 31, 62, 63)


def full_world():
    """64 things, 32 walls, 8 players, of which some wait, and a mirror that heard of thing 5."""
    calls = [rank(kind, 10 * kind) for kind in range(8)]
    calls += [make(n, n % 8, n // 8, n % 8, [n * 100000] * 6) for n in range(64)]
    calls += [wall(3 * i - 40, i - 16, 3 * i - 38, i - 16) for i in range(32)]
    calls += [join(n, n % 7, n // 10 % 3, n // 8, n // 4, 64 + n) for n in PLAYERS]
    calls += [feed(stream(3, enters(5, 2, [1, 2, 3, 4, 5, 6, 7, 8])))]
    return calls + [TICK, move(0, 1, 1), move(63, 0, 1), set_value(2, 2, 7), TICK]


def look():
    calls = [STATE, MIRROR, line(-50, -20, 50, 20), line(0, 0, 7, 0), around(3, 3, 4)]
    calls += [thing(n) for n in SOME_THINGS]
    return calls + [ask(n) for n in PLAYERS for ask in (sent, sees, waits, told)]


def look_twice():
    """A second look behind a tick shows what can't be asked for: ranks, radii, budgets."""
    return [*look(), rank(0, 0), TICK, *look()]


REFUSED = [
    (-2, [make(-1), make(10000), make(64, kind=8), make_row(64, 0, []), make_row(64, 0, [0] * 9), make(64, 100001)]),
    (-3, [make(0), make(63, 7, 7, 7)]),
    (-4, [make(64), make(9999)]),
    (-1, [drop(-1), drop(64), drop(LOW), drop(HIGH)]),
    (-1, [move(64, 0, 0), move(-1, HIGH, 0)]),
    (-2, [move(0, 100001, 5), move(0, 5, -100001)]),
    (-1, [set_value(64, 2, 0), set_value(-1, 0, 0)]),
    (-2, [set_value(0, 1, 5), set_value(0, 0, 5), set_value(0, 8, 5), set_value(0, 2, 2147483648)]),
    (-2, [wall(100001, 0, 0, 0), wall(0, 0, 0, -100001)]),
    (-4, [wall(0, 0, 0, 0)]),
    (-1, [unwall(-1), unwall(32), unwall(LOW)]),
    (-2, [rank(8, 5), rank(-1, 5), rank(3, 101), rank(3, -1)]),
    (-2, [join(100, 0), join(1, 10000), join(1, 0, 10), join(1, 0, inner=-1), join(1, 0, inner=9, outer=8)]),
    (-2, [join(0, 0, budget=63), join(0, 0, budget=4097)]),
    (-3, [join(0, 1), join(70, 1)]),
    (-4, [join(1, 0), join(99, 0)]),
    (-1, [ask(n) for ask in (part, sent, sees, waits, told) for n in (-1, 1, 71, 100, LOW, HIGH)]),
    (-2, [around(100001, 0, 0), around(0, -100001, 0), around(0, 0, -1), around(0, 0, 200001)]),
    (-2, [line(100001, 0, 0, 0), line(0, 0, 0, -100001)]),
    (-2, [feed([256]), feed([4, 0, -1])]),
    (-6, [feed([]), feed([4, 0, 0]), feed([4, 2, 3, 5])]),
    (-7, [feed([3, 0]), feed(stream(3, leaves(5)))]),
    (-8, [feed(stream(4, leaves(5), leaves(5))), feed(stream(4, enters(6), changes(5, {0: 1})))]),
    (-1, [thing(-1), thing(64), thing(10000), thing(LOW), thing(HIGH)]),
]


class ChangeNothing(unittest.TestCase):
    def test_each_refusal_of_each_call(self):
        calls = full_world()
        plain = run(*calls, *look_twice())
        self.assertTrue(all(answer[0] >= 0 for answer in plain))
        self.assertLessEqual(len(calls) + len(look_twice()) + 1, 300)
        for number, refused in REFUSED:
            for call in refused:
                answered = run(*calls, call, *look_twice())
                self.assertEqual(answered[len(calls)], [number], call)
                self.assertEqual(answered[:len(calls)] + answered[len(calls) + 1:], plain, call)

    def test_every_call_that_refuses_is_among_them(self):
        calls = {call[0] for number, refused in REFUSED for call in refused}
        self.assertEqual(calls, set(range(21)) - {9, 17, 18, 20})

    def test_the_world_shows_what_a_refusal_might_change(self):
        answered = run(*full_world(), *look_twice())
        waiting = [row for call, row in zip(full_world() + look_twice(), answered) if call[0] == 12]
        self.assertTrue(any(len(row) > 1 for row in waiting))


class Questions(unittest.TestCase):
    def test_what_only_asks_changes_nothing(self):
        calls = full_world()
        plain = run(*calls, *look_twice())
        for ask in look():
            answered = run(*calls, ask, *look_twice())
            self.assertEqual(answered[:len(calls)] + answered[len(calls) + 1:], plain, ask)


if __name__ == "__main__":
    unittest.main()
