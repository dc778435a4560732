"""wall, unwall, where a line meets a wall, and what walls hide."""

import itertools
import unittest
from fractions import Fraction

from seenareas.lines import meeting
from tests.helper import HIGH, LOW, join, last, make, run, told_now, unwall, wall

FAR = 100000
BOTH = [("enters", 0), ("enters", 1)]
OWN = [("enters", 0)]


def told_past(walls, place=(10, 0), own=(0, 0)):
    """What a player at own is told, a thing at place and these walls in the world."""
    things = [make(0, *own), make(1, *place)]
    return told_now(*things, *[wall(*ends) for ends in walls], join(0, 0, inner=10000, outer=10000))


def slow_meeting(line, ends):
    """The least f as a Fraction, or None: by clipping, for checking against."""
    px, py, qx, qy = line
    ax, ay, bx, by = ends
    shares = [Fraction(0), Fraction(1)]
    for corner in ((ax, ay), (bx, by)):
        for start, step, goal in ((px, qx - px, corner[0]), (py, qy - py, corner[1])):
            if step != 0:
                shares.append(Fraction(goal - start, step))
    turn = (qx - px) * (by - ay) - (qy - py) * (bx - ax)
    if turn != 0:
        shares.append(Fraction((ax - px) * (by - ay) - (ay - py) * (bx - ax), turn))
    for share in sorted(shares):
        x = px + share * (qx - px)
        y = py + share * (qy - py)
        straight = (x - ax) * (by - ay) == (y - ay) * (bx - ax)
        inside = min(ax, bx) <= x <= max(ax, bx) and min(ay, by) <= y <= max(ay, by)
        if 0 <= share <= 1 and straight and inside:
            return share
    return None


class Wall(unittest.TestCase):
    def test_walls_are_numbered_from_0(self):
        self.assertEqual(run(wall(0, 0, 1, 1), wall(0, 0, 1, 1), wall(5, 5, 5, 5)), [[0], [1], [2]])

    def test_the_least_and_the_greatest_of_each_range(self):
        self.assertEqual(run(wall(-FAR, -FAR, FAR, FAR), wall(FAR, FAR, -FAR, -FAR)), [[0], [1]])

    def test_each_number_beyond_its_range(self):
        for i in range(4):
            for number in (FAR + 1, -FAR - 1, LOW, HIGH):
                ends = [0, 0, 0, 0]
                ends[i] = number
                self.assertEqual(run(wall(*ends), wall(0, 0, 0, 0)), [[-2], [0]])

    def test_32_walls_and_one_more(self):
        walls = [wall(i, 0, i, 1) for i in range(32)]
        self.assertEqual(run(*walls), [[i] for i in range(32)])
        self.assertEqual(last(*walls, wall(0, 0, 0, 0)), [-4])
        self.assertEqual(last(*walls, unwall(3), wall(0, 0, 0, 0)), [31])

    def test_a_wrong_number_comes_before_too_many(self):
        walls = [wall(i, 0, i, 1) for i in range(32)]
        self.assertEqual(last(*walls, wall(0, 0, 0, FAR + 1)), [-2])


class Unwall(unittest.TestCase):
    def test_the_wall_is_gone(self):
        calls = [make(0), make(1, 10), wall(5, -5, 5, 5), join(0, 0)]
        self.assertEqual(told_now(*calls), OWN)
        self.assertEqual(last(*calls, unwall(0)), [0])
        self.assertEqual(told_now(*calls, unwall(0)), BOTH)

    def test_those_behind_it_move_up(self):
        calls = [make(0), make(1, 10), wall(50, 0, 50, 0), wall(5, 0, 5, 0), wall(60, 0, 60, 0), join(0, 0)]
        self.assertEqual(told_now(*calls, unwall(1)), BOTH)
        self.assertEqual(told_now(*calls, unwall(0), unwall(0)), BOTH)
        self.assertEqual(told_now(*calls, unwall(0), unwall(1)), OWN)
        self.assertEqual(last(*calls, unwall(0), wall(0, 0, 0, 0)), [2])

    def test_no_such_wall(self):
        for i in (-1, 2, LOW, HIGH):
            self.assertEqual(last(wall(0, 0, 0, 0), wall(0, 0, 0, 0), unwall(i)), [-1])
        self.assertEqual(run(unwall(0), wall(1, 1, 1, 1), unwall(0), unwall(0)), [[-1], [0], [0], [-1]])


class Hiding(unittest.TestCase):
    def test_no_wall_hides_nothing(self):
        self.assertEqual(told_past([]), BOTH)

    def test_a_wall_across(self):
        self.assertEqual(told_past([(5, -5, 5, 5)]), OWN)
        self.assertEqual(told_past([(5, 5, 5, -5)]), OWN)

    def test_a_wall_beside_in_front_or_behind(self):
        self.assertEqual(told_past([(5, 1, 5, 5), (-1, -5, -1, 5), (11, -5, 11, 5), (0, 1, 10, 1)]), BOTH)

    def test_the_second_wall_hides_too(self):
        self.assertEqual(told_past([(5, 1, 5, 5), (6, -5, 6, 5)]), OWN)

    def test_a_wall_that_only_touches_the_line_with_its_end(self):
        self.assertEqual(told_past([(5, 0, 5, 5)]), OWN)
        self.assertEqual(told_past([(5, 5, 5, 0)]), OWN)

    def test_a_wall_at_an_end_of_the_line(self):
        self.assertEqual(told_past([(10, 0, 10, 5)]), OWN)
        self.assertEqual(told_past([(10, -5, 10, 5)]), OWN)
        self.assertEqual(told_past([(0, -5, 0, 5)]), OWN)
        self.assertEqual(told_past([(0, 0, -5, 0)]), OWN)

    def test_a_wall_that_is_a_point(self):
        self.assertEqual(told_past([(5, 0, 5, 0)]), OWN)
        self.assertEqual(told_past([(0, 0, 0, 0)]), OWN)
        self.assertEqual(told_past([(10, 0, 10, 0)]), OWN)
        self.assertEqual(told_past([(5, 1, 5, 1), (11, 0, 11, 0), (-1, 0, -1, 0)]), BOTH)

    def test_a_line_that_is_a_point(self):
        self.assertEqual(told_past([(2, 1, 4, 5)], (3, 3), (3, 3)), OWN)
        self.assertEqual(told_past([(3, 3, 4, 5)], (3, 3), (3, 3)), OWN)
        self.assertEqual(told_past([(3, 3, 3, 3)], (3, 3), (3, 3)), OWN)
        self.assertEqual(told_past([(2, 1, 4, 6), (0, 0, 2, 2), (4, 4, 9, 9), (2, 2, 2, 2)], (3, 3), (3, 3)), BOTH)

    def test_lines_along_a_wall(self):
        for ends in ((2, 0, 7, 0), (7, 0, 2, 0), (-5, 0, 20, 0), (8, 0, 20, 0), (10, 0, 20, 0), (-9, 0, 0, 0)):
            self.assertEqual(told_past([ends]), OWN, ends)
        self.assertEqual(told_past([(11, 0, 20, 0), (20, 0, 11, 0), (-9, 0, -1, 0), (-1, 0, -9, 0)]), BOTH)

    def test_a_miss_by_the_least_that_can_be(self):
        self.assertEqual(told_past([(5000, 5000, 5000, 5000)], (7071, 7071)), OWN)
        self.assertEqual(told_past([(5000, 5000, 4999, 5000)], (7071, 7070)), BOTH)
        self.assertEqual(told_past([(FAR, 1, -FAR, 0)], (10, 0)), BOTH)
        self.assertEqual(told_past([(FAR, 1, -FAR, -1)], (10, 0)), OWN)

    def test_a_wall_through_the_own_thing_does_not_hide_this(self):
        self.assertEqual(told_past([(0, 0, 0, 0)], (3, 4)), OWN)


class Meeting(unittest.TestCase):
    def test_every_line_and_wall_on_a_small_grid(self):
        places = list(itertools.product(range(3), range(3)))
        for p, q, a, b in itertools.product(places, repeat=4):
            met = meeting(p + q, a + b)
            share = None if met is None else Fraction(*met)
            self.assertEqual(share, slow_meeting(p + q, a + b), (p, q, a, b))
            self.assertTrue(met is None or met[1] > 0)

    def test_great_numbers(self):
        met = meeting((-FAR, -FAR, FAR, FAR - 1), (-FAR, FAR, FAR, -FAR))
        self.assertEqual(Fraction(*met), Fraction(200000, 399999))


if __name__ == "__main__":
    unittest.main()
