"""How streams are written, byte for byte."""

import unittest

from seenareas.model import Player, Thing, World
from seenareas.ticks import run_tick
from seenareas.wire import value_bytes, whole_bytes
from tests.helper import TICK, drop, join, last, make, make_row, move, read_stream, run, sent, set_value


def bytes_now(*calls):
    """The bytes sent to player 0 in a tick behind these calls."""
    answer = last(*calls, TICK, sent(0))
    return answer[1:]


class Numbers(unittest.TestCase):
    def test_whole_numbers(self):
        rows = {
            0: [0], 1: [1], 127: [127], 128: [128, 1], 129: [129, 1], 255: [255, 1], 256: [128, 2],
            16383: [255, 127], 16384: [128, 128, 1], 100000: [160, 141, 6], 9999: [143, 78],
        }
        for number, row in rows.items():
            self.assertEqual(whole_bytes(number), row)

    def test_values(self):
        rows = {
            0: [0], -1: [1], 1: [2], -2: [3], 63: [126], -64: [127], 64: [128, 1], -65: [129, 1],
            2147483647: [254, 255, 255, 255, 15], -2147483647: [253, 255, 255, 255, 15],
            100000: [192, 154, 12], -100000: [191, 154, 12],
        }
        for value, row in rows.items():
            self.assertEqual(value_bytes(value), row)


class Messages(unittest.TestCase):
    def test_no_message(self):
        self.assertEqual(bytes_now(join(0, 0)), [1, 0])
        self.assertEqual(bytes_now(join(0, 0), TICK), [2, 0])

    def test_entering(self):
        values = [3, -4, 64, -65, 0, 2147483647, -2147483647, 1]
        row = [6, 7, 128, 1, 129, 1, 0, 254, 255, 255, 255, 15, 253, 255, 255, 255, 15, 2]
        self.assertEqual(bytes_now(make_row(9999, 7, values), join(0, 9999)), [1, 1, 1, 143, 78, 7, *row])

    def test_things_whose_number_has_one_byte_or_two(self):
        self.assertEqual(bytes_now(make(127), join(0, 127)), [1, 1, 1, 127, 0] + [0] * 8)
        self.assertEqual(bytes_now(make(128), join(0, 128)), [1, 1, 1, 128, 1, 0] + [0] * 8)

    def test_each_value_that_changes_alone(self):
        calls = [make(5), join(0, 5), TICK]
        self.assertEqual(bytes_now(*calls, move(5, -7, 0)), [2, 1, 2, 5, 1, 13])
        self.assertEqual(bytes_now(*calls, move(5, 0, 7)), [2, 1, 2, 5, 2, 14])
        for i in range(2, 8):
            self.assertEqual(bytes_now(*calls, set_value(5, i, 64)), [2, 1, 2, 5, 2 ** i, 128, 1])

    def test_several_values_that_change_in_order(self):
        calls = [make(300), join(0, 300), TICK, set_value(300, 7, 1), move(300, 0, -1), set_value(300, 4, 2)]
        self.assertEqual(bytes_now(*calls), [2, 1, 2, 172, 2, 2 + 16 + 128, 1, 4, 2])

    def test_all_values_change(self):
        calls = [make(5), join(0, 5), TICK, drop(5), make_row(5, 0, [1, 2, 3, 4, 5, 6, 7, 8])]
        self.assertEqual(bytes_now(*calls), [2, 1, 2, 5, 255, 2, 4, 6, 8, 10, 12, 14, 16])

    def test_leaving(self):
        calls = [make(200), join(0, 200), TICK, drop(200)]
        self.assertEqual(bytes_now(*calls), [2, 1, 3, 200, 1])

    def test_several_messages_in_the_order_told(self):
        calls = [make(1), make(2), make(4), join(0, 1), TICK, drop(2), move(1, 1, 0), make(3)]
        entering = [1, 3, 0] + [0] * 8
        self.assertEqual(bytes_now(*calls), [2, 3, 2, 1, 1, 2, 3, 2, *entering])

    def test_more_messages_than_a_byte_tells(self):
        old = [make(n) for n in range(64)]
        new = [make(n) for n in range(64, 127)]
        calls = [*old, join(0, 0), TICK, *[drop(n) for n in range(1, 64)], *new, move(0, 1, 0)]
        row = bytes_now(*calls)
        self.assertEqual(row[:2], [2, 127])
        calls = [*old, join(0, 64), join(1, 0, team=1), join(2, 64, team=1), TICK]
        calls += [drop(n) for n in range(64)] + new + [make(127), TICK, sent(2)]
        row = last(*calls)[1:]
        self.assertEqual(row[:3], [2, 128, 1])
        self.assertEqual(len(read_stream(row)[1]), 128)

    def test_a_late_tick(self):
        world = World()
        world.things[0] = Thing(0, [0] * 8)
        world.players[0] = Player(0, 0, 0, 0, 64)
        world.tick = 16383
        self.assertEqual(run_tick(world, []), [0, 16384, 0, 15, 0])
        self.assertEqual(world.players[0].sent, [128, 128, 1, 1, 1, 0, 0] + [0] * 8)


class SomeTicks(unittest.TestCase):
    def test_a_thing_comes_changes_and_goes(self):
        calls = [make(0), make(1, 11), join(0, 0), TICK, sent(0), move(1, 10, 0), TICK, sent(0)]
        calls += [set_value(1, 2, -3), TICK, sent(0), TICK, sent(0), move(1, 21, 0), TICK, sent(0)]
        rows = [answer[1:] for call, answer in zip(calls, run(*calls)) if call == sent(0)]
        self.assertEqual(rows[0], [1, 1, 1, 0, 0] + [0] * 8)
        self.assertEqual(rows[1], [2, 1, 1, 1, 0, 20] + [0] * 7)
        self.assertEqual(rows[2:], [[3, 1, 2, 1, 4, 5], [4, 0], [5, 1, 3, 1]])


if __name__ == "__main__":
    unittest.main()
