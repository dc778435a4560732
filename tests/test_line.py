"""line: which wall a line meets first, and where."""

import itertools
import unittest

from seenareas.lines import least_terms
from tests.helper import HIGH, LOW, drop, last, line, make, run, unwall, wall
from tests.test_walls import slow_meeting

FAR = 100000
NONE = [0, 0]


def met(walls, ends):
    return last(*[wall(*numbers) for numbers in walls], line(*ends))


class MeetsNone(unittest.TestCase):
    def test_no_walls(self):
        self.assertEqual(met([], (0, 0, 10, 10)), NONE)
        self.assertEqual(met([], (5, 5, 5, 5)), NONE)

    def test_walls_beside_in_front_and_behind(self):
        self.assertEqual(met([(5, 1, 5, 9), (11, -9, 11, 9), (-1, -9, -1, 9), (0, 1, 10, 1)], (0, 0, 10, 0)), NONE)

    def test_on_the_same_straight_line_but_apart(self):
        self.assertEqual(met([(11, 0, 20, 0), (-9, 0, -1, 0), (11, 0, 11, 0), (-1, 0, -1, 0)], (0, 0, 10, 0)), NONE)

    def test_things_are_no_walls(self):
        self.assertEqual(last(make(0, 5), line(0, 0, 10, 0)), NONE)


class Where(unittest.TestCase):
    def test_across(self):
        self.assertEqual(met([(5, -5, 5, 5)], (0, 0, 10, 0)), [0, 1, 0, 1, 2])
        self.assertEqual(met([(3, 5, 3, -5)], (0, 0, 10, 0)), [0, 1, 0, 3, 10])
        self.assertEqual(met([(0, 10, 10, 0)], (0, 0, 10, 10)), [0, 1, 0, 1, 2])

    def test_from_the_first_point_to_the_second(self):
        self.assertEqual(met([(3, 5, 3, -5)], (10, 0, 0, 0)), [0, 1, 0, 7, 10])

    def test_in_least_terms(self):
        self.assertEqual(met([(4, -8, 4, 8)], (0, 0, 6, 0)), [0, 1, 0, 2, 3])
        self.assertEqual(met([(-2, -1000, -2, 1000)], (-8, -8, 1, 1)), [0, 1, 0, 2, 3])
        self.assertEqual(met([(60000, -FAR, 60000, FAR)], (0, 0, FAR, 0)), [0, 1, 0, 3, 5])
        self.assertEqual(met([(6, 6, 90, 90)], (0, 0, 27, 27)), [0, 1, 0, 2, 9])

    def test_where_no_whole_point_is(self):
        self.assertEqual(met([(0, 1, 1, 0)], (0, 0, 3, 4)), [0, 1, 0, 1, 7])
        self.assertEqual(met([(-FAR, FAR, FAR, -FAR)], (-FAR, -FAR, FAR, FAR - 1)), [0, 1, 0, 200000, 399999])

    def test_f_of_0(self):
        for ends in ((0, -5, 0, 5), (0, 0, 5, 5), (-5, 5, 0, 0), (0, 0, 0, 0), (-5, 0, 5, 0), (0, 0, -7, 0)):
            self.assertEqual(met([ends], (0, 0, 10, 0)), [0, 1, 0, 0, 1], ends)

    def test_f_of_1(self):
        for ends in ((10, -5, 10, 5), (10, 0, 15, 5), (5, 5, 10, 0), (10, 0, 10, 0), (10, 0, 20, 0), (20, 0, 10, 0)):
            self.assertEqual(met([ends], (0, 0, 10, 0)), [0, 1, 0, 1, 1], ends)

    def test_a_wall_touched_at_its_end(self):
        self.assertEqual(met([(4, 0, 4, 9)], (0, 0, 10, 0)), [0, 1, 0, 2, 5])
        self.assertEqual(met([(4, -9, 4, 0)], (0, 0, 10, 0)), [0, 1, 0, 2, 5])
        self.assertEqual(met([(4, 1, 4, 9)], (0, 0, 10, 0)), NONE)

    def test_along_a_wall_the_least_f(self):
        self.assertEqual(met([(2, 0, 7, 0)], (0, 0, 10, 0)), [0, 1, 0, 1, 5])
        self.assertEqual(met([(7, 0, 2, 0)], (0, 0, 10, 0)), [0, 1, 0, 1, 5])
        self.assertEqual(met([(2, 0, 7, 0)], (10, 0, 0, 0)), [0, 1, 0, 3, 10])
        self.assertEqual(met([(8, 0, 99, 0)], (0, 0, 10, 0)), [0, 1, 0, 4, 5])
        self.assertEqual(met([(-99, -99, 3, 3)], (0, 0, 10, 10)), [0, 1, 0, 0, 1])
        self.assertEqual(met([(0, -6, 0, -3)], (0, 0, 0, -9)), [0, 1, 0, 1, 3])

    def test_a_wall_that_is_a_point(self):
        self.assertEqual(met([(6, 3, 6, 3)], (0, 0, 10, 5)), [0, 1, 0, 3, 5])
        self.assertEqual(met([(6, 4, 6, 4), (5, 3, 5, 3), (12, 6, 12, 6), (-2, -1, -2, -1)], (0, 0, 10, 5)), NONE)

    def test_a_line_that_is_a_point(self):
        self.assertEqual(met([(0, 0, 9, 9)], (3, 3, 3, 3)), [0, 1, 0, 0, 1])
        self.assertEqual(met([(3, 3, 9, 5)], (3, 3, 3, 3)), [0, 1, 0, 0, 1])
        self.assertEqual(met([(9, 5, 3, 3)], (3, 3, 3, 3)), [0, 1, 0, 0, 1])
        self.assertEqual(met([(3, 3, 3, 3)], (3, 3, 3, 3)), [0, 1, 0, 0, 1])
        self.assertEqual(met([(0, 0, 2, 2), (4, 4, 9, 9), (0, 0, 9, 8), (3, 4, 3, 4)], (3, 3, 3, 3)), NONE)


class Which(unittest.TestCase):
    def test_the_one_met_first(self):
        walls = [(8, -5, 8, 5), (2, -5, 2, 5), (5, -5, 5, 5)]
        self.assertEqual(met(walls, (0, 0, 10, 0)), [0, 1, 1, 1, 5])
        self.assertEqual(met(walls, (10, 0, 0, 0)), [0, 1, 0, 1, 5])
        self.assertEqual(met(walls, (4, 0, 6, 0)), [0, 1, 2, 1, 2])

    def test_of_those_met_at_the_same_f_the_least_number(self):
        self.assertEqual(met([(9, 9, 9, 9), (5, 0, 5, 5), (5, -5, 5, 5), (5, 0, 5, 0)], (0, 0, 10, 0)), [0, 1, 1, 1, 2])
        self.assertEqual(met([(5, 0, 9, 0), (5, -5, 5, 5)], (0, 0, 10, 0)), [0, 1, 0, 1, 2])
        self.assertEqual(met([(0, 0, 0, 0), (-9, 0, 9, 0)], (0, 0, 10, 0)), [0, 1, 0, 0, 1])
        self.assertEqual(met([(3, 3, 3, 3), (0, 0, 9, 9)], (3, 3, 3, 3)), [0, 1, 0, 0, 1])

    def test_fractions_that_lie_close_together(self):
        walls = [(1, 99999, 1, FAR), (0, 99999, 1, FAR)]
        ends = (-FAR, 99999, FAR, FAR)
        self.assertEqual(met(walls, ends), [0, 1, 1, 100000, 199999])
        self.assertEqual(met(walls[:1], ends), [0, 1, 0, 100001, 200000])

    def test_numbers_move_up_behind_a_wall_taken_away(self):
        calls = [wall(50, 0, 50, 0), wall(5, 0, 5, 0), wall(2, 0, 2, 0), line(0, 0, 10, 0), unwall(0), line(0, 0, 10, 0)]
        calls += [unwall(1), line(0, 0, 10, 0), unwall(0), line(0, 0, 10, 0)]
        answered = run(*calls)
        self.assertEqual(answered[3::2], [[0, 1, 2, 1, 5], [0, 1, 1, 1, 5], [0, 1, 0, 1, 2], [0, 0]])

    def test_the_last_of_32(self):
        self.assertEqual(met([(i, 1, i, 1) for i in range(31)] + [(7, 0, 7, 0)], (0, 0, 10, 0)), [0, 1, 31, 7, 10])


class Ranges(unittest.TestCase):
    def test_the_least_and_the_greatest(self):
        self.assertEqual(met([(0, 0, 0, 0)], (-FAR, -FAR, FAR, FAR)), [0, 1, 0, 1, 2])
        self.assertEqual(met([(0, 0, 0, 0)], (FAR, FAR, -FAR, -FAR)), [0, 1, 0, 1, 2])
        self.assertEqual(met([(-FAR, FAR, FAR, FAR)], (-FAR, -FAR, FAR, FAR)), [0, 1, 0, 1, 1])

    def test_each_number_beyond(self):
        for i in range(4):
            for number in (FAR + 1, -FAR - 1, LOW, HIGH):
                ends = [0, 0, 0, 0]
                ends[i] = number
                self.assertEqual(met([(0, 0, 0, 0)], ends), [-2])
                self.assertEqual(met([], ends), [-2])


class AgainstClipping(unittest.TestCase):
    def expected(self, walls, ends):
        shares = [(slow_meeting(ends, numbers), i) for i, numbers in enumerate(walls)]
        shares = [pair for pair in shares if pair[0] is not None]
        if not shares:
            return NONE
        share, i = min(shares)
        return [0, 1, i, share.numerator, share.denominator]

    def test_lines_and_three_walls_on_a_small_grid(self):
        places = list(itertools.product((-2, 0, 1, 3), (-1, 0, 2)))
        lines = list(itertools.product(places, repeat=2))
        for k in range(0, len(lines), 7):
            walls = [sum(lines[(k * step + step) % len(lines)], ()) for step in (1, 5, 11)]
            calls = [wall(*numbers) for numbers in walls] + [line(*p, *q) for p, q in lines]
            for (p, q), answer in zip(lines, run(*calls)[3:]):
                self.assertEqual(answer, self.expected(walls, p + q), (walls, p, q))


class LeastTerms(unittest.TestCase):
    def test_some(self):
        rows = {(0, 1): [0, 1], (0, 9): [0, 1], (9, 9): [1, 1], (1, 2): [1, 2], (6, 9): [2, 3], (35, 64): [35, 64]}
        for share, row in rows.items():
            self.assertEqual(least_terms(share), row)


class Aside(unittest.TestCase):
    def test_it_changes_nothing(self):
        calls = [wall(5, 0, 5, 0), make(0), line(0, 0, 10, 0), line(0, 0, 10, 0), drop(0), line(0, 0, 10, 0)]
        answered = run(*calls)
        self.assertEqual([answered[2], answered[3], answered[5]], [[0, 1, 0, 1, 2]] * 3)


if __name__ == "__main__":
    unittest.main()
