"""Circles, walls and teams: what players see."""

import unittest

from tests.helper import (
    TICK, brief, drop, join, last, make, messages_of, move, part, run, sent, told_now, unwall, wall,
)

BOTH = [("enters", 0), ("enters", 1)]
OWN = [("enters", 0)]
CHANGES = [("changes", 1)]
LEAVES = [("leaves", 1)]


def told_at(place, inner, outer):
    return told_now(make(0), make(1, *place), join(0, 0, inner=inner, outer=outer))


class Circles(unittest.TestCase):
    def test_the_inner_circle_exactly_met_and_just_missed(self):
        self.assertEqual(told_at((3, 4), 5, 9), BOTH)
        self.assertEqual(told_at((-4, -3), 5, 9), BOTH)
        self.assertEqual(told_at((4, 4), 5, 9), OWN)
        self.assertEqual(told_at((5, 1), 5, 9), OWN)
        self.assertEqual(told_at((6000, 8000), 10000, 10000), BOTH)
        self.assertEqual(told_at((6000, 8001), 10000, 10000), OWN)

    def test_radius_0(self):
        self.assertEqual(told_at((0, 0), 0, 0), BOTH)
        self.assertEqual(told_at((0, 1), 0, 0), OWN)
        self.assertEqual(told_at((1, 0), 0, 9), OWN)

    def test_the_outer_circle_exactly_met_and_just_missed(self):
        calls = [make(0), make(1), join(0, 0, inner=2, outer=5), TICK]
        self.assertEqual(told_now(*calls, move(1, 3, 4)), CHANGES)
        self.assertEqual(told_now(*calls, move(1, 4, 4)), LEAVES)
        self.assertEqual(told_now(*calls, move(1, 5, 1)), LEAVES)

    def test_between_the_circles_it_is_seen_only_if_it_was(self):
        calls = [make(0), make(1, 15), join(0, 0), TICK, TICK]
        self.assertEqual(told_now(*calls), [])
        self.assertEqual(told_now(*calls, move(1, 10, 0)), [("enters", 1)])
        self.assertEqual(told_now(*calls, move(1, 10, 0), TICK, move(1, 15, 0), TICK, move(1, 20, 0)), CHANGES)

    def test_beyond_the_outer_circle_for_a_tick_it_is_lost(self):
        calls = [make(0), make(1, 10), join(0, 0), TICK, move(1, 21, 0)]
        self.assertEqual(told_now(*calls), LEAVES)
        self.assertEqual(told_now(*calls, TICK, move(1, 15, 0)), [])
        self.assertEqual(told_now(*calls, move(1, 15, 0)), CHANGES)

    def test_hidden_for_a_tick_it_is_lost(self):
        calls = [make(0), make(1, 10), join(0, 0), TICK, move(1, 15, 0), wall(5, 0, 5, 0)]
        self.assertEqual(told_now(*calls), LEAVES)
        self.assertEqual(told_now(*calls, TICK, unwall(0)), [])
        self.assertEqual(told_now(*calls, TICK, unwall(0), move(1, 9, 0)), [("enters", 1)])

    def test_the_circles_move_with_the_own_thing(self):
        calls = [make(0, 100), make(1), join(0, 0), TICK]
        self.assertEqual(told_now(*calls, move(0, 10, 0)), [("changes", 0), ("enters", 1)])

    def test_the_own_thing_at_an_edge_of_the_world(self):
        calls = [make(0, -100000, -100000), make(1, 100000, 100000), make(2, -100000, -90000)]
        self.assertEqual(told_now(*calls, join(0, 0, inner=10000, outer=10000)), [("enters", 0), ("enters", 2)])


class OwnThing(unittest.TestCase):
    def test_gone_nothing_is_seen(self):
        calls = [make(0), make(1), join(0, 0), TICK, drop(0)]
        self.assertEqual(told_now(*calls), [("leaves", 0), ("leaves", 1)])

    def test_gone_for_a_tick_what_was_seen_is_lost(self):
        calls = [make(0), make(1, 10), join(0, 0), TICK, move(1, 15, 0), drop(0), TICK, make(0)]
        self.assertEqual(told_now(*calls), OWN)

    def test_dropped_and_made_anew_between_ticks_nothing_is_lost(self):
        calls = [make(0), make(1, 10), join(0, 0), TICK, move(1, 15, 0), drop(0), make(0)]
        self.assertEqual(told_now(*calls), CHANGES)

    def test_a_thing_made_anew_between_the_circles_was_seen(self):
        calls = [make(0), make(1, 10), join(0, 0), TICK, drop(1), make(1, 20)]
        self.assertEqual(told_now(*calls), CHANGES)

    def test_a_thing_gone_for_a_tick_was_not_seen(self):
        calls = [make(0), make(1, 10), join(0, 0), TICK, drop(1), TICK, make(1, 20)]
        self.assertEqual(told_now(*calls), [])

    def test_two_players_may_have_one_thing(self):
        answered = run(make(0), join(0, 0), join(1, 0), TICK, sent(0), sent(1))
        self.assertEqual(answered[4], answered[5])
        self.assertEqual(brief(answered[4]), OWN)


class Teams(unittest.TestCase):
    def calls(self, first, second):
        things = [make(0), make(1, 1000), make(2, 1010), make(3, 500)]
        return [*things, join(0, 0, team=first), join(1, 1, team=second)]

    def test_what_one_sees_all_of_the_team_see(self):
        answered = run(*self.calls(4, 4), TICK, sent(0), sent(1))
        self.assertEqual(brief(answered[-2]), [("enters", 0), ("enters", 1), ("enters", 2)])
        self.assertEqual(answered[-1], answered[-2])

    def test_other_teams_do_not(self):
        answered = run(*self.calls(4, 5), TICK, sent(0), sent(1))
        self.assertEqual(brief(answered[-2]), OWN)
        self.assertEqual(brief(answered[-1]), [("enters", 1), ("enters", 2)])

    def test_team_0_is_none(self):
        answered = run(*self.calls(0, 0), TICK, sent(0), sent(1))
        self.assertEqual(brief(answered[-2]), OWN)
        self.assertEqual(brief(answered[-1]), [("enters", 1), ("enters", 2)])

    def test_one_whose_own_thing_is_gone_sees_what_the_others_see(self):
        calls = [make(1), make(2, 10), join(0, 77, team=9), join(1, 1, team=9)]
        self.assertEqual(told_now(*calls), [("enters", 1), ("enters", 2)])

    def test_what_was_seen_with_the_team_was_not_seen_by_itself(self):
        calls = [make(0), make(1, 30), make(2, 15), join(0, 0, team=1), join(1, 1, team=1, inner=15, outer=15), TICK]
        self.assertEqual(told_now(*calls), [])
        self.assertEqual(told_now(*calls, move(1, 31, 0)), [("changes", 1), ("leaves", 2)])

    def test_it_is_seen_as_long_as_one_sees_it(self):
        calls = [make(0), make(1, 30), make(2, 10), join(0, 0, team=1), join(1, 1, team=1), TICK]
        self.assertEqual(told_now(*calls, move(2, 21, 0), TICK, move(2, 40, 0)), [("changes", 2)])
        self.assertEqual(told_now(*calls, move(2, 21, 0), TICK, move(2, 51, 0)), [("leaves", 2)])

    def test_when_the_other_parts_its_sight_is_gone(self):
        answered = run(*self.calls(4, 4), TICK, part(1), TICK, sent(0))
        self.assertEqual(brief(answered[-1]), [("leaves", 1), ("leaves", 2)])

    def test_players_that_come_later_see_with_the_team_whatever_their_number(self):
        calls = [make(0), make(1, 1000), join(0, 0, team=2), TICK, join(50, 1, team=2), TICK, sent(0), sent(50)]
        answered = run(*calls)
        self.assertEqual(brief(answered[-2]), [("enters", 1)])
        self.assertEqual(brief(answered[-1]), BOTH)

    def test_a_wall_hides_from_one_alone(self):
        calls = [make(0), make(1, 10), make(2, 5, 5), wall(5, 0, 5, 0), join(0, 0, team=3), join(1, 2, team=3)]
        self.assertEqual(told_now(*calls), [("enters", 0), ("enters", 1), ("enters", 2)])
        self.assertEqual(told_now(*calls[:-1]), [("enters", 0), ("enters", 2)])

    def test_the_thing_is_told_as_it_is(self):
        calls = [make(0), make(1, 1000), join(0, 0, team=3), join(1, 1, team=3), TICK, move(1, 1001, 0), TICK, sent(0)]
        self.assertEqual(messages_of(last(*calls)), [("changes", 1, {0: 1001})])


if __name__ == "__main__":
    unittest.main()
