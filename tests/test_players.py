"""rank, join, part, and the general words on tick and sent."""

import unittest

from seenareas.model import Player, World
from seenareas.ticks import run_tick
from tests.helper import (
    HIGH, LOW, TICK, brief, join, last, make, messages_of, move, part, rank, read_stream, run, sent,
)


class Rank(unittest.TestCase):
    def test_the_least_and_the_greatest_of_each_range(self):
        self.assertEqual(run(rank(0, 0), rank(7, 100), rank(0, 100), rank(7, 0)), [[0]] * 4)

    def test_a_number_beyond_its_range(self):
        for kind in (-1, 8, LOW, HIGH):
            self.assertEqual(last(rank(kind, 5)), [-2])
        for number in (-1, 101, LOW, HIGH):
            self.assertEqual(last(rank(5, number)), [-2])

    def test_a_refusal_changes_no_rank(self):
        calls = [rank(1, 50), rank(1, 101), rank(9, 100), make(0), make(1, kind=1), join(0, 0), TICK, sent(0)]
        self.assertEqual(brief(last(*calls)), [("enters", 1), ("enters", 0)])


class Join(unittest.TestCase):
    def test_the_least_and_the_greatest_of_each_range(self):
        self.assertEqual(last(join(0, 0, 0, 0, 0, 64)), [0])
        self.assertEqual(last(join(99, 9999, 9, 10000, 10000, 4096)), [0])
        self.assertEqual(last(join(5, 5, 5, 0, 10000, 64)), [0])

    def test_each_number_beyond_its_range(self):
        good = [1, 1, 1, 100, 200, 64]
        beyond = [(-1, 100), (-1, 10000), (-1, 10), (-1, 201), (99, 10001), (63, 4097)]
        for i, numbers in enumerate(beyond):
            for number in (*numbers, LOW, HIGH):
                wrong = list(good)
                wrong[i] = number
                self.assertEqual(run(join(*wrong), join(*good)), [[-2], [0]], wrong)

    def test_an_inner_radius_beyond_its_range_with_a_greater_outer_one(self):
        self.assertEqual(last(join(1, 1, 1, 10001, 10001, 64)), [-2])

    def test_a_number_that_is_there(self):
        calls = [make(0), make(1), join(3, 0, inner=0, outer=0), join(3, 1)]
        self.assertEqual(run(*calls)[2:], [[0], [-3]])

    def test_8_players_and_one_more(self):
        joined = [join(n, 0) for n in range(8)]
        self.assertEqual(run(*joined), [[0]] * 8)
        self.assertEqual(last(*joined, join(8, 0)), [-4])
        self.assertEqual(last(*joined, part(0), join(8, 0)), [0])

    def test_which_refusal_comes_first(self):
        joined = [join(n, 0) for n in range(8)]
        self.assertEqual(last(*joined, join(7, 0)), [-3])
        self.assertEqual(last(*joined, join(7, 0, budget=63)), [-2])
        self.assertEqual(last(*joined, join(100, 0)), [-2])

    def test_the_own_thing_need_not_be_there(self):
        calls = [join(0, 5), TICK, sent(0), make(5), TICK, sent(0)]
        answered = run(*calls)
        self.assertEqual(answered[1:3], [[0, 1, 0, 2, 0], [0, 1, 0]])
        self.assertEqual(brief(answered[5]), [("enters", 5)])


class Part(unittest.TestCase):
    def test_the_player_is_gone(self):
        answered = run(join(3, 0), join(4, 0), part(3), part(3), sent(3), TICK)
        self.assertEqual(answered[2:], [[0], [-1], [-1], [0, 1, 4, 2, 0]])

    def test_no_such_player(self):
        for n in (-1, 0, 100, LOW, HIGH):
            self.assertEqual(last(join(3, 0), part(n)), [-1])

    def test_who_joins_anew_has_seen_nothing(self):
        away = [make(0), make(1, 10), join(0, 0, inner=10, outer=20), TICK, move(1, 15, 0)]
        self.assertEqual(brief(last(*away, TICK, sent(0))), [("changes", 1)])
        self.assertEqual(brief(last(*away, part(0), join(0, 0), TICK, sent(0))), [("enters", 0)])

    def test_who_joins_anew_was_told_nothing_and_nothing_waits(self):
        calls = [make(n, rest=[2 ** 31 - 1] * 6) for n in range(3)]
        calls += [join(0, 0, budget=64), TICK, TICK, part(0), join(0, 0, budget=64)]
        self.assertEqual(last(*calls, sent(0)), [0])
        self.assertEqual(brief(last(*calls, TICK, sent(0))), [("enters", 0)])


class Tick(unittest.TestCase):
    def test_without_players(self):
        self.assertEqual(run(TICK, make(0), TICK), [[0, 1], [0], [0, 2]])

    def test_players_by_rising_numbers_with_bytes_and_waiting(self):
        things = [make(0, rest=[2 ** 31 - 1] * 6), make(1), make(2), make(3)]
        joined = [join(9, 0), join(2, 7), join(5, 0, budget=64)]
        answered = run(*things, *joined, TICK, sent(2), sent(5), sent(9))
        lengths = [len(row) - 1 for row in answered[-3:]]
        self.assertEqual(answered[-4], [0, 1, 2, lengths[0], 0, 5, lengths[1], 2, 9, lengths[2], 0])
        self.assertEqual(lengths, [2, 2 + 35 + 11, 2 + 35 + 33])

    def test_the_ticks_number_goes_on_by_one(self):
        answered = run(join(0, 0), *[TICK] * 120)
        self.assertEqual([row[1] for row in answered[1:]], list(range(1, 121)))

    def test_it_ends_at_100000(self):
        world = World()
        world.players[0] = Player(0, 0, 0, 0, 64)
        world.tick = 99999
        self.assertEqual(run_tick(world, []), [0, 100000, 0, 4, 0])
        self.assertEqual(world.players[0].sent, [160, 141, 6, 0])
        self.assertEqual(run_tick(world, []), [-5])
        self.assertEqual(world.tick, 100000)
        self.assertEqual(world.players[0].sent, [160, 141, 6, 0])


class Sent(unittest.TestCase):
    def test_none_before_the_first_tick(self):
        self.assertEqual(last(make(0), TICK, join(0, 0), sent(0)), [0])

    def test_the_last_stream_until_the_next_tick(self):
        answered = run(make(0), join(0, 0), TICK, sent(0), move(0, 1, 0), sent(0), TICK, sent(0), sent(0))
        self.assertEqual(answered[3], answered[5])
        self.assertEqual(read_stream(answered[3][1:]), (1, [("enters", 0, 0, [0] * 8)]))
        self.assertEqual(messages_of(answered[7]), [("changes", 0, {0: 1})])
        self.assertEqual(answered[7], answered[8])

    def test_no_such_player(self):
        for n in (-1, 0, 100, LOW, HIGH):
            self.assertEqual(last(join(3, 0), TICK, sent(n)), [-1])


if __name__ == "__main__":
    unittest.main()
