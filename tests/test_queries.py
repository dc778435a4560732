"""sees, waits, told, around, thing, state."""

import unittest

from seenareas.model import World
from seenareas.queries import world_in_brief
from tests.helper import (
    HIGH, LOW, STATE, TICK, around, drop, join, last, make, make_row, move, part, rank, run, sees, set_value, thing,
    told, unwall, waits, wall,
)

FAR = 100000
GREAT = 2147483647
# With these six values a thing enters by 35 bytes (its number below 128, at the origin),
# so that the least budget lets one of them in a tick.
LONG = [GREAT] * 6
ZEROS = [0] * 8


def full(n, kind=0, values=ZEROS):
    return [n, kind, *values]


class NoSuchPlayer(unittest.TestCase):
    def test_numbers_that_no_player_has(self):
        for ask in (sees, waits, told):
            for n in (-1, 0, 2, 4, 99, 100, LOW, HIGH):
                self.assertEqual(last(make(0), make(2), join(3, 2), TICK, ask(n)), [-1])

    def test_one_that_parted(self):
        for ask in (sees, waits, told):
            self.assertEqual(last(make(0), join(3, 0), TICK, part(3), ask(3)), [-1])

    def test_the_least_and_the_greatest_number_of_a_player(self):
        for n in (0, 99):
            calls = [make(7), join(n, 7), TICK]
            self.assertEqual(last(*calls, sees(n)), [0, 1, 7, 1, 7])
            self.assertEqual(last(*calls, waits(n)), [0])
            self.assertEqual(last(*calls, told(n)), [0, 1, *full(7)])


class JustJoined(unittest.TestCase):
    def test_before_the_first_tick(self):
        answered = run(make(0), make(1), join(0, 0), sees(0), waits(0), told(0))
        self.assertEqual(answered[3:], [[0, 0, 0], [0], [0, 0]])

    def test_joined_since_the_last_tick(self):
        calls = [make(n, rest=LONG) for n in (0, 1)]
        calls += [join(0, 0, team=1, budget=64), TICK, join(1, 0, team=1, budget=64), sees(1), waits(1), told(1)]
        self.assertEqual(run(*calls)[-3:], [[0, 0, 0], [0], [0, 0]])

    def test_joined_anew_since_the_last_tick(self):
        calls = [make(n, rest=LONG) for n in (0, 1)]
        calls += [join(0, 0, budget=64), TICK, part(0), join(0, 0, budget=64), sees(0), waits(0), told(0)]
        self.assertEqual(run(*calls)[-3:], [[0, 0, 0], [0], [0, 0]])


class Sees(unittest.TestCase):
    def team(self):
        things = [make(n, x) for n, x in ((9, 0), (4, 10), (200, 1000), (3, 1010), (128, 500))]
        return [*things, join(1, 9, team=5), join(0, 200, team=5)]

    def test_by_itself_and_with_its_team_by_rising_numbers(self):
        answered = run(*self.team(), TICK, sees(0), sees(1))
        self.assertEqual(answered[-2:], [[0, 2, 3, 200, 4, 3, 4, 9, 200], [0, 2, 4, 9, 4, 3, 4, 9, 200]])

    def test_without_a_team_it_sees_what_it_sees_by_itself(self):
        calls = [make(0), make(1, 3, 4), make(2, 3, 5), join(0, 0, inner=5, outer=5), join(1, 2, inner=9), TICK]
        self.assertEqual(last(*calls, sees(0)), [0, 2, 0, 1, 2, 0, 1])

    def test_what_both_see_stands_once(self):
        calls = [make(0), make(1), join(0, 0, team=1), join(1, 1, team=1), TICK, sees(0)]
        self.assertEqual(last(*calls), [0, 2, 0, 1, 2, 0, 1])

    def test_circles_exactly_met_and_just_missed(self):
        calls = [make(0), make(1, 3, 4), make(2, 4, 4), join(0, 0, inner=5, outer=10), TICK]
        self.assertEqual(last(*calls, sees(0)), [0, 2, 0, 1, 2, 0, 1])
        self.assertEqual(last(*calls, move(1, 6, 8), TICK, sees(0)), [0, 2, 0, 1, 2, 0, 1])
        self.assertEqual(last(*calls, move(1, 6, 9), TICK, sees(0)), [0, 1, 0, 1, 0])

    def test_its_own_thing_is_not_there(self):
        self.assertEqual(last(make(0), join(0, 7), TICK, sees(0)), [0, 0, 0])
        calls = [make(0), make(1, 5), join(0, 7, team=1), join(1, 1, team=1), TICK, sees(0)]
        self.assertEqual(last(*calls), [0, 0, 2, 0, 1])

    def test_its_own_thing_goes_and_comes(self):
        calls = [make(0), make(1), join(0, 0), TICK, drop(0), TICK, sees(0), make(0), TICK, sees(0)]
        answered = run(*calls)
        self.assertEqual([answered[6], answered[9]], [[0, 0, 0], [0, 2, 0, 1, 2, 0, 1]])

    def test_behind_a_wall_it_sees_its_own_thing_alone(self):
        calls = [make(0), make(1, 5), wall(0, 0, 0, 0), join(0, 0), TICK, sees(0)]
        self.assertEqual(last(*calls), [0, 1, 0, 1, 0])

    def test_it_is_what_the_last_tick_left(self):
        later = [drop(4), move(3, FAR, FAR), make(5), wall(0, 0, 0, 0), part(0), sees(1)]
        self.assertEqual(last(*self.team(), TICK, *later), [0, 2, 4, 9, 4, 3, 4, 9, 200])
        self.assertEqual(last(*self.team(), TICK, *later, TICK, sees(1)), [0, 1, 9, 1, 9])

    def test_what_waits_is_seen(self):
        calls = [make(n, rest=LONG) for n in range(5)]
        self.assertEqual(last(*calls, join(0, 0, budget=64), TICK, sees(0)), [0, 5, 0, 1, 2, 3, 4, 5, 0, 1, 2, 3, 4])

    def test_64_things(self):
        calls = [make(n) for n in range(63, -1, -1)] + [join(0, 0), TICK, sees(0)]
        self.assertEqual(last(*calls), [0, 64, *range(64), 64, *range(64)])


class Waits(unittest.TestCase):
    def test_nothing_waits(self):
        self.assertEqual(last(make(0), make(1), join(0, 0), TICK, waits(0)), [0])
        self.assertEqual(last(make(0), join(0, 7), TICK, waits(0)), [0])

    def test_each_since_its_tick_by_rising_numbers(self):
        calls = [make(n, rest=LONG) for n in (6, 300, 4, 5)] + [join(0, 4, budget=64), TICK, waits(0)]
        self.assertEqual(last(*calls), [0, 5, 1, 6, 1, 300, 1])
        calls += [TICK, make(1, rest=LONG), TICK, waits(0)]
        self.assertEqual(last(*calls), [0, 1, 3, 300, 1])
        self.assertEqual(last(*calls, TICK, waits(0)), [0, 1, 3])
        self.assertEqual(last(*calls, TICK, TICK, waits(0)), [0])

    def test_a_change_and_a_leaving_wait(self):
        calls = [rank(1, 100), make(0), make(2), make(3), join(0, 0, budget=64), TICK, TICK]
        calls += [make(n, kind=1, rest=LONG) for n in (10, 11)] + [set_value(2, 2, 5), drop(3), TICK, waits(0)]
        self.assertEqual(last(*calls), [0, 2, 3, 3, 3, 11, 3])

    def test_a_break_begins_the_wait_anew(self):
        calls = [make(n, rest=LONG) for n in (4, 5, 6, 7, 8)] + [join(0, 4, budget=64), TICK, move(8, 99, 0), TICK]
        self.assertEqual(last(*calls, waits(0)), [0, 6, 1, 7, 1])
        self.assertEqual(last(*calls, move(8, 0, 0), TICK, waits(0)), [0, 7, 1, 8, 3])

    def test_what_waits_otherwise_waits_on(self):
        # 2 waits to change since the second tick, then to leave, then to change again.
        calls = [rank(1, 100), make(0), make(2), join(0, 0, budget=64), TICK, set_value(2, 2, 5)]
        calls += [make(n, kind=1, rest=LONG) for n in (10, 11, 12, 13)]
        steps = [TICK, waits(0), drop(2), TICK, waits(0), make(2), set_value(2, 3, 6), TICK, waits(0)]
        answered = run(*calls, *steps)
        waiting = [[0, 2, 2, 11, 2, 12, 2, 13, 2], [0, 2, 2, 12, 2, 13, 2], [0, 2, 2, 13, 2]]
        self.assertEqual([row for call, row in zip(calls + steps, answered) if call == waits(0)], waiting)

    def test_due_again_behind_a_leaving_since_the_tick_of_the_leaving(self):
        # 9 waits to leave since the second tick; the room of the third lets it.
        calls = [rank(3, 100), make(5), make(9, kind=1), join(0, 5, budget=64), TICK]
        calls += [make(n, kind=3, rest=LONG) for n in (20, 21)] + [drop(9), make(9, kind=2), TICK]
        self.assertEqual(last(*calls, waits(0)), [0, 9, 2, 21, 2])
        self.assertEqual(last(*calls, TICK, waits(0)), [0, 9, 3])
        self.assertEqual(last(*calls, TICK, TICK, waits(0)), [0])

    def test_leavings_wait_when_the_own_thing_is_gone(self):
        calls = [make(n) for n in range(30)] + [join(0, 0, budget=64), *[TICK] * 6]
        self.assertEqual(last(*calls, waits(0)), [0])
        self.assertEqual(last(*calls, drop(0), TICK, waits(0)), [0, 28, 7, 29, 7])

    def test_it_is_what_the_last_tick_left(self):
        calls = [make(n, rest=LONG) for n in (4, 5, 6)] + [join(0, 4, budget=64), TICK]
        self.assertEqual(last(*calls, drop(5), drop(4), make(1), wall(0, 0, 0, 0), waits(0)), [0, 5, 1, 6, 1])

    def test_each_player_by_itself(self):
        calls = [make(n, rest=LONG) for n in (0, 1)] + [join(0, 0), join(1, 0, budget=64), TICK, waits(0), waits(1)]
        self.assertEqual(run(*calls)[-2:], [[0], [0, 1, 1]])


class Told(unittest.TestCase):
    def test_each_with_kind_and_values_by_rising_numbers(self):
        values = [3, -4, GREAT, -GREAT, 5, -6, 7, -8]
        calls = [make_row(9999, 7, values), make(12, kind=1), join(0, 12), TICK, told(0)]
        self.assertEqual(last(*calls), [0, 2, *full(12, 1), *full(9999, 7, values)])

    def test_what_waits_to_enter_is_not_in_it(self):
        calls = [make(n, rest=LONG) for n in (0, 1)] + [join(0, 0, budget=64), TICK, told(0)]
        self.assertEqual(last(*calls), [0, 1, *full(0, 0, [0, 0, *LONG])])
        both = [0, 2, *full(0, 0, [0, 0, *LONG]), *full(1, 0, [0, 0, *LONG])]
        self.assertEqual(last(*calls, TICK, told(0)), both)

    def test_what_waits_to_change_is_as_it_was(self):
        calls = [rank(1, 100), make(0), make(2, kind=3), join(0, 0, budget=64), TICK]
        calls += [make(n, kind=1, rest=LONG) for n in (10, 11)] + [set_value(2, 2, 5), TICK, told(0)]
        long = [0, 0, *LONG]
        self.assertEqual(last(*calls), [0, 3, *full(0), *full(2, 3), *full(10, 1, long)])
        changed = [0, 0, 5, 0, 0, 0, 0, 0]
        rows = [*full(0), *full(2, 3, changed), *full(10, 1, long), *full(11, 1, long)]
        self.assertEqual(last(*calls, TICK, told(0)), [0, 4, *rows])

    def test_what_left_is_taken_out(self):
        calls = [make(0), make(1), join(0, 0), TICK, drop(1), TICK, told(0)]
        self.assertEqual(last(*calls), [0, 1, *full(0)])

    def test_another_kind_leaves_before_it_enters(self):
        calls = [make(0), make(1, kind=4), join(0, 0), TICK, drop(1), make(1, 2, 3, kind=6)]
        self.assertEqual(last(*calls, TICK, told(0)), [0, 1, *full(0)])
        self.assertEqual(last(*calls, TICK, TICK, told(0)), [0, 2, *full(0), *full(1, 6, [2, 3, 0, 0, 0, 0, 0, 0])])

    def test_it_is_what_the_last_tick_left(self):
        calls = [make(0), make(1, 5), join(0, 0), TICK, drop(1), move(0, 1, 1), make(2), told(0)]
        self.assertEqual(last(*calls), [0, 2, *full(0), *full(1, 0, [5, 0, 0, 0, 0, 0, 0, 0])])

    def test_what_the_team_sees_is_told(self):
        calls = [make(0), make(1, 1000), join(0, 0, team=1), join(1, 1, team=1), TICK, told(0), told(1)]
        row = [0, 2, *full(0), *full(1, 0, [1000, 0, 0, 0, 0, 0, 0, 0])]
        self.assertEqual(run(*calls)[-2:], [row, row])

    def test_its_own_thing_is_not_there(self):
        self.assertEqual(last(make(0), join(0, 7), TICK, told(0)), [0, 0])
        self.assertEqual(last(make(0), make(1), join(0, 0), TICK, drop(0), TICK, told(0)), [0, 0])


class Around(unittest.TestCase):
    def test_the_numbers_of_those_within_rising(self):
        calls = [make(9999, 12, 11), make(3, 10, 14), make(0, 10, 10), make(5, 20, 10)]
        self.assertEqual(last(*calls, around(10, 10, 5)), [0, 0, 3, 9999])

    def test_a_distance_exactly_met_and_just_missed(self):
        places = [(3, 4), (-3, 4), (-4, -3), (5, 0), (0, -5), (4, 4), (5, 1), (-1, -5), (0, 6)]
        calls = [make(n, 100 + x, y - 200) for n, (x, y) in enumerate(places)]
        self.assertEqual(last(*calls, around(100, -200, 5)), [0, 0, 1, 2, 3, 4])

    def test_radius_0(self):
        self.assertEqual(last(make(0, 7, 8), make(1, 7, 9), make(2, 7, 8), around(7, 8, 0)), [0, 0, 2])

    def test_the_greatest_radius(self):
        calls = [make(0, -FAR, FAR), make(1, -FAR, FAR - 1), make(2, -FAR, -FAR), make(3, FAR, -FAR), make(4, 1, FAR)]
        self.assertEqual(last(*calls, around(FAR, FAR, 200000)), [0, 0, 3, 4])
        self.assertEqual(last(*calls, around(FAR, FAR, 199999)), [0, 4])

    def test_none(self):
        self.assertEqual(last(around(0, 0, 200000)), [0])
        self.assertEqual(last(make(0, 2), around(0, 0, 1)), [0])

    def test_walls_hide_nothing(self):
        self.assertEqual(last(make(0), make(1, 5), wall(0, -9, 0, 9), wall(3, -9, 3, 9), around(0, 0, 5)), [0, 0, 1])

    def test_it_is_as_things_are_now(self):
        calls = [make(0), make(1), make(2, 9), around(0, 0, 1), move(0, 2, 0), drop(1), move(2, 1, 0), around(0, 0, 1)]
        answered = run(*calls)
        self.assertEqual([answered[3], answered[7]], [[0, 0, 1], [0, 2]])

    def test_the_least_and_the_greatest_of_each_range(self):
        for x, y in ((-FAR, -FAR), (-FAR, FAR), (FAR, -FAR), (FAR, FAR)):
            for r in (0, 200000):
                self.assertEqual(last(make(6, x, y), around(x, y, r)), [0, 6])

    def test_each_number_beyond_its_range(self):
        for i, beyond in enumerate([(-FAR - 1, FAR + 1), (-FAR - 1, FAR + 1), (-1, 200001)]):
            for number in (*beyond, LOW, HIGH):
                numbers = [0, 0, 5]
                numbers[i] = number
                self.assertEqual(last(make(0), around(*numbers)), [-2])


class Thing(unittest.TestCase):
    def test_its_kind_and_values(self):
        values = [FAR, -FAR, GREAT, -GREAT, 1, -1, 0, 9]
        self.assertEqual(last(make_row(3, 7, values), thing(3)), [0, 7, *values])

    def test_the_least_and_the_greatest_number(self):
        self.assertEqual(run(make(0), make(9999, kind=1), thing(0), thing(9999))[2:], [[0, 0, *ZEROS], [0, 1, *ZEROS]])

    def test_it_is_as_it_is_now(self):
        calls = [make(3, kind=2), move(3, 4, 5), thing(3), set_value(3, 7, -6), thing(3), drop(3), make(3, 1), thing(3)]
        answered = run(*calls)
        self.assertEqual(answered[2], [0, 2, 4, 5, 0, 0, 0, 0, 0, 0])
        self.assertEqual(answered[4], [0, 2, 4, 5, 0, 0, 0, 0, 0, -6])
        self.assertEqual(answered[7], [0, 0, 1, 0, 0, 0, 0, 0, 0, 0])

    def test_no_such_thing(self):
        for n in (-1, 0, 2, 10000, LOW, HIGH):
            self.assertEqual(last(make(1), make(3), drop(3), thing(n)), [-1])
        self.assertEqual(last(make(1), drop(1), thing(1)), [-1])


class State(unittest.TestCase):
    def squares(self, *places):
        return last(*[make(n, *place) for n, place in enumerate(places)], STATE)[4]

    def test_at_first(self):
        self.assertEqual(last(STATE), [0, 0, 0, 0, 0])

    def test_all_of_it(self):
        calls = [make(5), make(6, 1), make(7, 64), wall(0, 0, 0, 0), wall(1, 1, 2, 2), wall(1, 1, 2, 2)]
        calls += [wall(3, 3, 3, 3), join(99, 1), join(0, 1), join(10, 1), TICK, TICK, TICK, TICK, TICK, STATE]
        self.assertEqual(last(*calls), [0, 5, 3, 4, 2, 0, 10, 99])
        calls += [drop(7), unwall(0), part(10), TICK, STATE]
        self.assertEqual(last(*calls), [0, 6, 2, 3, 1, 0, 99])

    def test_a_square_has_its_lower_and_left_sides_not_the_others(self):
        self.assertEqual(self.squares((0, 0), (63, 0), (0, 63), (63, 63)), 1)
        for place in ((64, 0), (0, 64), (64, 64), (-1, 0), (0, -1), (-1, -1)):
            self.assertEqual(self.squares((0, 0), place), 2, place)
            self.assertEqual(self.squares((63, 63), place), 2, place)

    def test_squares_with_coordinates_below_0(self):
        self.assertEqual(self.squares((-1, -1), (-64, -1), (-1, -64), (-64, -64)), 1)
        for place in ((-65, -1), (-1, -65), (-65, -64), (-64, -65), (0, -64), (-64, 0)):
            self.assertEqual(self.squares((-64, -64), place), 2, place)

    def test_each_square_once(self):
        self.assertEqual(self.squares((0, 0), (64, 0), (1, 1), (65, 1), (0, 64), (0, 65)), 3)
        self.assertEqual(self.squares((64, 128), (128, 64)), 2)

    def test_the_farthest_squares(self):
        self.assertEqual(self.squares((FAR, FAR), (99968, 99968), (-FAR, -FAR), (-100032 + 63, -100032 + 63)), 2)
        self.assertEqual(self.squares((FAR, FAR), (99967, 99968), (-FAR, -FAR), (-99968, -99969)), 4)

    def test_64_things_32_walls_8_players_120_ticks(self):
        calls = [make(n, 64 * n) for n in range(64)] + [wall(0, 0, 0, 0)] * 32 + [join(n, 0) for n in range(7, -1, -1)]
        self.assertEqual(last(*calls, *[TICK] * 120, STATE), [0, 120, 64, 32, 64, *range(8)])

    def test_the_last_tick(self):
        world = World()
        world.tick = 100000
        self.assertEqual(world_in_brief(world, []), [0, 100000, 0, 0, 0])

    def test_a_fed_mirror_is_not_in_it(self):
        self.assertEqual(last([16, 13, 9, 1, 1, 5, 0, *ZEROS], STATE), [0, 0, 0, 0, 0])


if __name__ == "__main__":
    unittest.main()
