"""What is due, what waits and since when, in which turn and how far it is told."""

import unittest

from tests.helper import (
    TICK, brief, drop, join, make, messages_of, move, rank, run, sent, set_value, told_now,
)

# With these six values a thing enters by 35 bytes (its number below 128, at the origin),
# so that a room of 56 bytes lets one of them in a tick.
LONG = [2147483647] * 6


def told_each(*calls):
    """What player 0 is told in each tick of these calls, and how many wait for it then."""
    with_sent = []
    for call in calls:
        with_sent.append(call)
        if call == TICK:
            with_sent.append(sent(0))
    answered = run(*with_sent)
    rows = []
    for i, call in enumerate(with_sent):
        if call == TICK:
            rows.append((brief(answered[i + 1]), answered[i][4]))
    return rows


class Due(unittest.TestCase):
    def test_nothing_twice(self):
        self.assertEqual(told_each(make(0), join(0, 0), TICK, TICK), [([("enters", 0)], 0), ([], 0)])

    def test_a_value_set_to_what_it_was(self):
        calls = [make(0), join(0, 0), TICK, set_value(0, 2, 5), set_value(0, 2, 0), move(0, 0, 0)]
        self.assertEqual(told_now(*calls), [])

    def test_dropped_and_made_anew_as_it_was(self):
        calls = [make(0), make(1, kind=3), join(0, 0), TICK, drop(1), make(1, kind=3)]
        self.assertEqual(told_now(*calls), [])

    def test_dropped_and_made_anew_with_other_values(self):
        calls = [make(0), make(1, 2), join(0, 0), TICK, drop(1), make(1, 3, rest=[0, 0, 0, 0, 0, 9]), TICK, sent(0)]
        self.assertEqual(messages_of(run(*calls)[-1]), [("changes", 1, {0: 3, 7: 9})])

    def test_dropped_and_made_anew_with_another_kind_it_leaves_and_enters(self):
        calls = [make(0), make(1, kind=1), join(0, 0), TICK, drop(1), make(1, kind=2), TICK, TICK, TICK]
        rows = told_each(*calls)
        self.assertEqual(rows[1:], [([("leaves", 1)], 1), ([("enters", 1)], 0), ([], 0)])

    def test_another_kind_for_a_while_that_no_tick_saw(self):
        calls = [make(0), make(1, kind=1), join(0, 0), TICK, drop(1), make(1, kind=2), drop(1), make(1, kind=1)]
        self.assertEqual(told_now(*calls), [])

    def test_the_first_kind_again_behind_the_leaving_it_enters(self):
        calls = [make(0), make(1, kind=1), join(0, 0), TICK, drop(1), make(1, kind=2), TICK, drop(1), make(1, kind=1)]
        self.assertEqual(told_now(*calls), [("enters", 1)])

    def test_gone_behind_a_leaving_nothing_is_due(self):
        calls = [make(0), make(1, kind=1), join(0, 0), TICK, drop(1), make(1, kind=2), TICK, drop(1), TICK]
        self.assertEqual(told_each(*calls)[1:], [([("leaves", 1)], 1), ([], 0)])

    def test_changes_while_it_waits_are_told_at_once(self):
        calls = [make(0, rest=LONG), make(1, rest=LONG), join(0, 0, budget=64), TICK, set_value(1, 2, 7)]
        calls += [TICK, sent(0)]
        self.assertEqual(messages_of(run(*calls)[-1]), [("enters", 1, 0, [0, 0, 7] + LONG[1:])])

    def test_what_was_told_stays_as_it_was_told(self):
        calls = [make(0), join(0, 0), TICK, set_value(0, 2, 1), TICK, set_value(0, 3, 1), TICK, sent(0)]
        self.assertEqual(messages_of(run(*calls)[-1]), [("changes", 0, {3: 1})])

    def test_a_thing_that_never_entered_need_not_leave(self):
        calls = [make(0, rest=LONG), make(1, rest=LONG), join(0, 0, budget=64), TICK, drop(1), TICK]
        self.assertEqual(told_each(*calls), [([("enters", 0)], 1), ([], 0)])


class Room(unittest.TestCase):
    # Each of these enters by 11 bytes, and by one more for each value from 64 to 8191.
    def told(self, budget, *two_byte_values):
        things = [make(n, rest=[64] * more + [0] * (6 - more)) for n, more in enumerate(two_byte_values)]
        return told_each(*things, join(0, 0, budget=budget), TICK)[0]

    def test_just_met(self):
        self.assertEqual(self.told(64, 0, 0, 0, 0, 1), ([("enters", n) for n in range(5)], 0))

    def test_just_missed(self):
        self.assertEqual(self.told(64, 0, 0, 0, 0, 2), ([("enters", n) for n in range(4)], 1))

    def test_one_byte_of_budget_more(self):
        self.assertEqual(self.told(65, 0, 0, 0, 0, 2), ([("enters", n) for n in range(5)], 0))

    def test_the_first_without_room_ends_it(self):
        self.assertEqual(self.told(64, 0, 0, 0, 0, 2, 0), ([("enters", n) for n in range(4)], 2))

    def test_a_room_that_is_full_to_the_last_byte_lets_nothing_more(self):
        self.assertEqual(self.told(64, 0, 0, 0, 0, 1, 0), ([("enters", n) for n in range(5)], 1))

    def test_a_greater_budget(self):
        self.assertEqual(self.told(8 + 63 * 11, *[0] * 63), ([("enters", n) for n in range(63)], 0))
        self.assertEqual(self.told(8 + 63 * 11 - 1, *[0] * 63), ([("enters", n) for n in range(62)], 1))

    def test_the_longest_message_has_room_in_the_least_budget(self):
        things = [make(9999, -100000, 100000, 7, LONG), join(0, 9999, budget=64), TICK]
        self.assertEqual(told_each(*things), [([("enters", 9999)], 0)])


class Turns(unittest.TestCase):
    def test_equal_ones_by_number_over_several_ticks(self):
        things = [make(n, rest=LONG) for n in (7, 3, 5)]
        rows = told_each(*things, join(0, 3, budget=64), TICK, TICK, TICK, TICK)
        self.assertEqual(rows, [([("enters", 3)], 2), ([("enters", 5)], 1), ([("enters", 7)], 0), ([], 0)])

    def test_the_greater_rank_first(self):
        things = [make(n, kind=n, rest=LONG) for n in (1, 2, 3)]
        rows = told_each(*things, rank(2, 1), rank(3, 100), join(0, 1, budget=64), TICK, TICK, TICK)
        self.assertEqual([row[0] for row in rows], [[("enters", 3)], [("enters", 2)], [("enters", 1)]])

    def late(self, n, number):
        """Things 4 and 5 wait, from the next tick on n of a ranked kind, too; told in the second tick."""
        calls = [rank(6, number), make(4, rest=LONG), make(5, rest=LONG), join(0, 4, budget=64), TICK]
        return told_each(*calls, make(n, kind=6, rest=LONG), TICK)[1][0]

    def test_ten_ranks_are_worth_a_tick(self):
        for n in (1, 9):
            self.assertEqual(self.late(n, 9), [("enters", 5)])
            self.assertEqual(self.late(n, 11), [("enters", n)])

    def test_of_equal_turns_the_lesser_number(self):
        self.assertEqual(self.late(1, 10), [("enters", 1)])
        self.assertEqual(self.late(9, 10), [("enters", 5)])

    def test_who_waits_longer_comes_first(self):
        calls = [make(n, rest=LONG) for n in (4, 5, 6)]
        calls += [join(0, 4, budget=64), TICK, make(1, rest=LONG), TICK, TICK, TICK]
        rows = told_each(*calls)
        self.assertEqual([row[0][0][1] for row in rows], [4, 5, 6, 1])
        self.assertEqual([row[1] for row in rows], [2, 2, 1, 0])

    def test_a_break_begins_the_wait_anew(self):
        calls = [make(n, rest=LONG) for n in (4, 5, 6, 7)]
        calls += [join(0, 4, budget=64), TICK, move(7, 99, 0), TICK, make(1, rest=LONG), move(7, 0, 0), TICK, TICK, TICK]
        self.assertEqual([row[0][0][1] for row in told_each(*calls)], [4, 5, 6, 1, 7])

    def test_without_a_break_what_is_due_may_become_another(self):
        # 9 waits since the second tick, to change at first, then to leave: as long as 22.
        calls = [rank(2, 100), make(3), make(9), join(0, 3, budget=64), TICK]
        calls += [make(n, kind=2, rest=LONG) for n in (20, 21, 22)]
        calls += [set_value(9, 2, 5), TICK, drop(9), TICK, rank(2, 0), TICK]
        rows = told_each(*calls)
        self.assertEqual(rows[1:3], [([("enters", 20)], 3), ([("enters", 21)], 2)])
        self.assertEqual(rows[3], ([("leaves", 9), ("enters", 22)], 0))

    def test_the_kind_told_gives_the_rank_of_what_leaves(self):
        calls = [make(0), make(1, kind=1), make(2, kind=2), join(0, 0), rank(1, 5), rank(2, 6), TICK]
        self.assertEqual(told_now(*calls, drop(1), drop(2)), [("leaves", 2), ("leaves", 1)])
        swapped = [drop(1), drop(2), make(1, kind=2), make(2, kind=1)]
        self.assertEqual(told_now(*calls, *swapped), [("leaves", 2), ("leaves", 1)])
        self.assertEqual(told_now(*calls, *swapped, TICK), [("enters", 1), ("enters", 2)])

    def test_the_things_kind_gives_the_rank_of_what_enters(self):
        calls = [make(0), make(1, kind=1), make(2, kind=2), join(0, 0), rank(1, 5), rank(2, 6)]
        self.assertEqual(told_now(*calls), [("enters", 2), ("enters", 1), ("enters", 0)])

    def test_a_rank_counts_from_the_next_tick_on(self):
        calls = [make(n, kind=n, rest=LONG) for n in (1, 2, 3)] + [join(0, 1, budget=64), TICK, rank(3, 1), TICK, TICK]
        self.assertEqual([row[0][0][1] for row in told_each(*calls)], [1, 3, 2])


class DueAgain(unittest.TestCase):
    def test_behind_a_leaving_it_waits_since_the_leaving(self):
        # 9 leaves in the second tick and enters in the third, ahead of 1, which is new then.
        calls = [make(5, rest=LONG), make(9, kind=1, rest=[1] * 6), join(0, 5, budget=64), TICK]
        calls += [drop(9), make(9, kind=2, rest=LONG), TICK, make(1, rest=LONG), TICK, TICK]
        rows = told_each(*calls)
        self.assertEqual(rows[0], ([("enters", 5), ("enters", 9)], 0))
        self.assertEqual(rows[1:], [([("leaves", 9)], 1), ([("enters", 9)], 1), ([("enters", 1)], 0)])

    def test_it_does_not_keep_the_turn_from_before_the_leaving(self):
        # 9 waits to leave since the second tick, and is told in the fourth. Since then it
        # waits to enter: behind 30, which waits since the third.
        calls = [rank(3, 100), make(5), make(9, kind=1), join(0, 5, budget=64), TICK]
        calls += [make(n, kind=3, rest=LONG) for n in (20, 21, 22)]
        calls += [drop(9), make(9, kind=2, rest=LONG), TICK, make(30, rest=LONG), TICK, TICK, TICK, TICK]
        self.assertEqual(told_each(*calls)[1:], [
            ([("enters", 20)], 3),
            ([("enters", 21)], 3),
            ([("enters", 22), ("leaves", 9)], 2),
            ([("enters", 30)], 1),
            ([("enters", 9)], 0),
        ])

    def test_each_player_is_told_by_itself(self):
        calls = [make(0, rest=LONG), make(1, rest=LONG), join(0, 0, budget=64), join(1, 0), TICK]
        calls += [sent(0), sent(1), TICK, sent(0), sent(1)]
        answered = run(*calls)
        self.assertEqual([brief(row) for row in answered[5:7]], [[("enters", 0)], [("enters", 0), ("enters", 1)]])
        self.assertEqual([brief(row) for row in answered[8:]], [[("enters", 1)], []])


if __name__ == "__main__":
    unittest.main()
