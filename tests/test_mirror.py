"""feed, mirror, clear: what is read as a stream, what fits a mirror, what it shows then."""

import unittest

from tests.helper import (
    CLEAR, HIGH, LOW, MIRROR, TICK, changes, enters, feed, join, last, leaves, make, make_row, part, run, sent, stream,
    told, whole,
)

TOO_GREAT = 2 ** 40
ZEROS = [0] * 8
AT_FIRST = [0, 0, 0]
# A mirror that has heard of thing 5 at tick 3, and what it shows.
KNOWN = feed(stream(3, enters(5, 2, [1, 2, 3, 4, 5, 6, 7, 8])))
KNOWN_SHOWN = [0, 3, 1, 5, 2, 1, 2, 3, 4, 5, 6, 7, 8]


def heard(*rows):
    """What a new mirror shows behind these streams, none of which is refused."""
    answered = run(*[feed(row) for row in rows], MIRROR)
    if any(answer[0] != 0 for answer in answered):
        raise AssertionError(f"refused: {answered}")
    return answered[-1]


class Refusals(unittest.TestCase):
    def assert_refused(self, row, number):
        """Refused with this number by the mirror that is known, and nothing is changed."""
        self.assertEqual(run(KNOWN, feed(row), MIRROR), [[0, 1], [number], KNOWN_SHOWN], row)


class Heard(unittest.TestCase):
    def test_a_stream_without_messages(self):
        self.assertEqual(run(feed([7, 0]), MIRROR), [[0, 0], [0, 7, 0]])

    def test_what_enters(self):
        row = [1, 1, 1, 143, 78, 7, 6, 7, 128, 1, 129, 1, 0, 254, 255, 255, 255, 15, 253, 255, 255, 255, 15, 2]
        values = [3, -4, 64, -65, 0, 2147483647, -2147483647, 1]
        self.assertEqual(run(feed(row), MIRROR), [[0, 1], [0, 1, 1, 9999, 7, *values]])

    def test_what_changes(self):
        self.assertEqual(run(KNOWN, feed([4, 1, 2, 5, 1, 13]), MIRROR)[1:], [[0, 1], [0, 4, 1, 5, 2, -7, *range(2, 9)]])
        for i in range(8):
            values = [1, 2, 3, 4, 5, 6, 7, 8]
            values[i] = 64
            answered = run(KNOWN, feed([4, 1, 2, 5, 2 ** i, 128, 1]), MIRROR)
            self.assertEqual(answered[1:], [[0, 1], [0, 4, 1, 5, 2, *values]])

    def test_several_values_change_in_order(self):
        answered = run(KNOWN, feed([4, 1, 2, 5, 2 + 16 + 128, 1, 4, 6]), MIRROR)
        self.assertEqual(answered[1:], [[0, 1], [0, 4, 1, 5, 2, 1, -1, 3, 4, 2, 6, 7, 3]])

    def test_all_values_change(self):
        answered = run(KNOWN, feed([4, 1, 2, 5, 255, *[1] * 8]), MIRROR)
        self.assertEqual(answered[1:], [[0, 1], [0, 4, 1, 5, 2, *[-1] * 8]])

    def test_what_leaves(self):
        self.assertEqual(run(KNOWN, feed([4, 1, 3, 5]), MIRROR)[1:], [[0, 1], [0, 4, 0]])

    def test_several_messages_one_after_another(self):
        row = stream(9, changes(5, {0: 9}), enters(300, 1), leaves(5), changes(300, {7: -1}), enters(2, 6))
        shown = [0, 9, 2, 2, 6, *ZEROS, 300, 1, 0, 0, 0, 0, 0, 0, 0, -1]
        self.assertEqual(run(KNOWN, feed(row), MIRROR)[1:], [[0, 5], shown])

    def test_a_thing_that_enters_and_leaves_within_one_stream(self):
        self.assertEqual(heard(stream(1, enters(7), leaves(7))), [0, 1, 0])
        shown = [0, 1, 1, 7, 3, *ZEROS]
        self.assertEqual(heard(stream(1, enters(7), leaves(7), enters(7, 3))), shown)

    def test_a_thing_that_leaves_and_enters_within_one_stream(self):
        answered = run(KNOWN, feed(stream(4, leaves(5), enters(5, 9))), MIRROR)
        self.assertEqual(answered[1:], [[0, 2], [0, 4, 1, 5, 9, *ZEROS]])

    def test_a_value_that_changes_and_changes_back_within_one_stream(self):
        answered = run(KNOWN, feed(stream(4, changes(5, {3: 7}), changes(5, {3: 4}))), MIRROR)
        self.assertEqual(answered[1:], [[0, 2], [0, 4, *KNOWN_SHOWN[2:]]])

    def test_ticks_that_are_not_one_after_another(self):
        self.assertEqual(heard([1, 0], [5, 0], whole(1000) + [0]), [0, 1000, 0])

    def test_many_messages(self):
        row = stream(1, *[enters(n) for n in range(400)])
        self.assertEqual(last(feed(row)), [0, 400])
        self.assertEqual(heard(row)[:3], [0, 1, 400])

    def test_things_by_rising_numbers(self):
        shown = heard(stream(1, enters(70000), enters(3), enters(500), enters(0)))
        self.assertEqual(shown[3::10], [0, 3, 500, 70000])

    def test_the_longest_list(self):
        messages = [enters(5), leaves(5)] * 383 + [enters(300, 300, [64, 64, 0, 0, 0, 0, 0, 0]), leaves(300)]
        row = stream(1, *messages)
        self.assertEqual(len(row), 5000)
        self.assertEqual(run(feed(row), MIRROR), [[0, 768], [0, 1, 0]])
        self.assertEqual(last(feed(row[:-1])), [-6])


class AnyNumbers(unittest.TestCase):
    """Whether a world could have the numbers isn't asked."""

    def test_the_greatest_numbers(self):
        most = [255] * 5 + [31]
        self.assertEqual(whole(TOO_GREAT - 1), most)
        row = [*most, 1, 1, *most, *most, *most, 254, *most[1:], 0, 1, 2, 3, 127, 126]
        shown = [0, TOO_GREAT - 1, 1, TOO_GREAT - 1, TOO_GREAT - 1, -TOO_GREAT // 2, TOO_GREAT // 2 - 1]
        self.assertEqual(run(feed(row), MIRROR), [[0, 1], [*shown, 0, -1, 1, -2, -64, 63]])

    def test_things_and_kinds_beyond_those_of_a_world(self):
        self.assertEqual(heard(stream(1, enters(10000, 8))), [0, 1, 1, 10000, 8, *ZEROS])
        self.assertEqual(heard(stream(1, enters(123456789, 128))), [0, 1, 1, 123456789, 128, *ZEROS])

    def test_values_beyond_those_of_a_world(self):
        values = [100001, -100001, 2147483648, -2147483648, 0, 0, 0, 0]
        self.assertEqual(heard(stream(1, enters(1, 0, values))), [0, 1, 1, 1, 0, *values])

    def test_more_things_than_a_world_may_have(self):
        self.assertEqual(heard(stream(100001, *[enters(n) for n in range(65)]))[:3], [0, 100001, 65])


class Unreadable(Refusals):
    def test_an_empty_row(self):
        self.assert_refused([], -6)
        self.assertEqual(run(feed([]), MIRROR), [[-6], AT_FIRST])

    def test_each_row_that_ends_too_early(self):
        row = stream(300, changes(5, {0: 9, 7: 300}), enters(300, 200, [64] * 8), leaves(300))
        self.assertEqual(last(KNOWN, feed(row)), [0, 3])
        for end in range(len(row)):
            self.assert_refused(row[:end], -6)

    def test_bytes_left_over(self):
        self.assert_refused([4, 0, 0], -6)
        self.assert_refused([4, 1, 3, 5, 0], -6)
        self.assert_refused([4, 1, 3, 5, 128], -6)
        self.assert_refused([4, 0] * 2, -6)
        self.assert_refused(stream(4) + stream(5), -6)

    def test_more_messages_than_told(self):
        self.assert_refused([4, 0, 3, 5], -6)
        self.assert_refused([4, 1, 3, 5, 3, 6], -6)

    def test_fewer_messages_than_told(self):
        self.assert_refused([4, 1], -6)
        self.assert_refused([4, 2, 3, 5], -6)
        self.assert_refused([4, *whole(TOO_GREAT - 1), 3, 5], -6)

    def test_a_message_that_begins_with_none_of_1_2_and_3(self):
        for byte in (0, 4, 5, 127, 128, 129, 130, 131, 255):
            self.assert_refused([4, 1, byte, 5], -6)
            self.assert_refused([4, 1, byte, 5, 1, 13], -6)
            self.assert_refused([4, 1, byte, 6, 0, *ZEROS], -6)
            self.assert_refused([4, 2, 3, 5, byte, 5], -6)

    def test_a_byte_of_changed_values_that_is_0(self):
        self.assert_refused([4, 1, 2, 5, 0], -6)
        self.assert_refused([4, 1, 2, 5, 0, 13], -6)
        self.assert_refused([4, 2, 2, 5, 0, 3, 5], -6)

    def test_the_byte_of_changed_values_is_no_whole_number(self):
        self.assertEqual(run(KNOWN, feed([4, 1, 2, 5, 128, 2]), MIRROR)[1:], [[0, 1], [0, 4, *KNOWN_SHOWN[2:-1], 1]])
        answered = run(KNOWN, feed([4, 1, 2, 5, 129, 1, 2]), MIRROR)
        self.assertEqual(answered[1:], [[0, 1], [0, 4, 1, 5, 2, -1, 2, 3, 4, 5, 6, 7, 1]])
        self.assert_refused([4, 1, 2, 5, 129, 1], -6)

    def spots(self, row):
        """Streams with this row as a whole number: tick, how many, a thing, a kind, a value, one that changes."""
        return [
            [*row, 0], [4, *row, 3, 5], [4, 1, 3, *row], [4, 1, 2, *row, 1, 13], [4, 1, 1, *row, 0, *ZEROS],
            [4, 1, 1, 6, *row, *ZEROS], [4, 1, 1, 6, 0, *row, *ZEROS[1:]], [4, 1, 1, 6, 0, *ZEROS[1:], *row],
            [4, 1, 2, 5, 1, *row], [4, 1, 2, 5, 129, 0, *row],
        ]

    def test_whole_numbers_in_more_bytes_than_need_be(self):
        for row in ([128, 0], [132, 0], [129, 0], [133, 128, 0], [255, 0], [128] * 5 + [0], [129] + [128] * 30 + [0]):
            for spot in self.spots(row):
                self.assert_refused(spot, -6)

    def test_two_bytes_where_they_need_be(self):
        self.assertEqual(heard([128, 1, 0]), [0, 128, 0])
        self.assertEqual(heard([128, 128, 1, 0]), [0, 16384, 0])

    def test_whole_numbers_just_at_2_to_the_power_40(self):
        row = [128] * 5 + [32]
        self.assertEqual(whole(TOO_GREAT), row)
        for spot in self.spots(row):
            self.assert_refused(spot, -6)

    def test_whole_numbers_just_below_2_to_the_power_40(self):
        row = whole(TOO_GREAT - 1)
        expected = [[0, 0], [-6], [-8], [-8], [0, 1], [0, 1], [0, 1], [0, 1], [0, 1], [0, 1]]
        self.assertEqual([last(KNOWN, feed(spot)) for spot in self.spots(row)], expected)

    def test_whole_numbers_far_above(self):
        for number in (TOO_GREAT + 1, 2 ** 41, 2 ** 42 - 1, 2 ** 42, 2 ** 63, 2 ** 64 + 5, 2 ** 700 + 5):
            for spot in self.spots(whole(number)):
                self.assert_refused(spot, -6)

    def test_a_whole_number_as_long_as_the_longest_list(self):
        self.assert_refused([129] * 5000, -6)
        self.assert_refused([129] * 4999 + [1], -6)
        self.assert_refused([128] * 4999 + [0], -6)

    def test_the_last_message_alone_is_wrong(self):
        self.assert_refused(stream(4, changes(5, {0: 9}), enters(6), [3, 128, 0]), -6)


class Overtaken(Refusals):
    def test_a_tick_equal_to_the_mirrors_or_less(self):
        for tick in (3, 2, 1, 0):
            self.assert_refused([tick, 0], -7)
            self.assert_refused(stream(tick, leaves(5)), -7)

    def test_tick_0_at_first(self):
        self.assertEqual(run(feed([0, 0]), MIRROR), [[-7], AT_FIRST])
        self.assertEqual(last(feed([1, 0])), [0, 0])

    def test_one_more_is_heard(self):
        self.assertEqual(run(KNOWN, feed([4, 0]), feed([4, 0]), feed([5, 0]))[1:], [[0, 0], [-7], [0, 0]])

    def test_behind_the_greatest_tick_there_is_none(self):
        greatest = stream(TOO_GREAT - 1)
        self.assertEqual(run(feed(greatest), feed(greatest), feed([9, 0])), [[0, 0], [-7], [-7]])

    def test_a_refused_stream_does_not_move_the_tick(self):
        self.assertEqual(run(KNOWN, feed(stream(9, leaves(6))), feed([9, 128, 0]), feed([4, 0]))[1:], [[-8], [-6], [0, 0]])


class Unfitting(Refusals):
    def test_what_enters_is_in_it(self):
        self.assert_refused(stream(4, enters(5)), -8)
        self.assert_refused(stream(4, enters(5, 2, [1, 2, 3, 4, 5, 6, 7, 8])), -8)
        self.assert_refused(stream(4, enters(6), enters(6)), -8)

    def test_what_changes_is_not_in_it(self):
        self.assert_refused(stream(4, changes(6, {0: 9})), -8)
        self.assert_refused(stream(4, leaves(5), changes(5, {0: 9})), -8)

    def test_what_leaves_is_not_in_it(self):
        self.assert_refused(stream(4, leaves(6)), -8)
        self.assert_refused(stream(4, leaves(5), leaves(5)), -8)
        self.assert_refused(stream(4, enters(6), leaves(6), leaves(6)), -8)
        self.assertEqual(run(feed([1, 1, 3, 5]), MIRROR), [[-8], AT_FIRST])

    def test_a_value_that_changes_to_the_same_one(self):
        for i in range(8):
            self.assert_refused(stream(4, changes(5, {i: i + 1})), -8)
        self.assert_refused(stream(4, changes(5, {0: 9, 7: 8})), -8)
        self.assert_refused(stream(4, changes(5, {0: 1, 7: 9})), -8)
        self.assert_refused(stream(4, changes(5, {0: 9}), changes(5, {0: 9})), -8)
        self.assert_refused(stream(4, enters(6), changes(6, {3: 0})), -8)

    def test_it_fits_up_to_its_last_message_alone(self):
        good = [changes(5, {0: 9}), enters(6, 1), changes(6, {2: 2}), leaves(5)]
        for bad in (leaves(5), enters(6), changes(6, {2: 2}), changes(5, {0: 1})):
            self.assert_refused(stream(4, *good, bad), -8)
        self.assertEqual(last(KNOWN, feed(stream(4, *good))), [0, 4])

    def test_only_its_first_message_does_not_fit(self):
        self.assert_refused(stream(4, leaves(6), enters(6), changes(5, {0: 9})), -8)


class NoBytes(Refusals):
    def test_numbers_beyond_their_range(self):
        for number in (-1, 256, LOW, HIGH):
            for row in ([number], [number, 0], [4, number], [4, 1, 3, number], [4, 1, number, 5], [4, 0, number]):
                self.assert_refused(row, -2)

    def test_the_least_and_the_greatest(self):
        self.assertEqual(last(feed([255, 1, 0])), [0, 0])
        self.assertEqual(last(feed([0])), [-6])
        self.assertEqual(last(feed([255])), [-6])

    def test_the_last_of_the_longest_list(self):
        self.assert_refused([0] * 4999 + [256], -2)
        self.assert_refused([-1] * 5000, -2)


class WhichComesFirst(Refusals):
    def test_a_wrong_number_before_all(self):
        self.assert_refused([3, 1, 3, 6, 0, 256], -2)
        self.assert_refused([3, 1, -1, 6], -2)

    def test_unreadable_before_overtaken(self):
        self.assert_refused([3, 0, 0], -6)
        self.assert_refused([0, 1], -6)

    def test_unreadable_before_unfitting(self):
        self.assert_refused([4, 2, 3, 6, 0], -6)
        self.assert_refused([4, 2, 3, 6, 3], -6)

    def test_overtaken_before_unfitting(self):
        self.assert_refused([3, 1, 3, 6], -7)
        self.assert_refused([0, 1, 1, 5, 0, *ZEROS], -7)

    def test_all_but_a_wrong_number(self):
        self.assert_refused([3, 1, 3, 6, 0], -6)


class MirrorAndClear(unittest.TestCase):
    def test_at_first(self):
        self.assertEqual(run(MIRROR, make(0), join(0, 0), TICK, MIRROR), [AT_FIRST, [0], [0], [0, 1, 0, 13, 0], AT_FIRST])

    def test_asking_changes_nothing(self):
        self.assertEqual(run(KNOWN, MIRROR, MIRROR)[1:], [KNOWN_SHOWN, KNOWN_SHOWN])

    def test_clear(self):
        self.assertEqual(run(KNOWN, CLEAR, MIRROR)[1:], [[0], AT_FIRST])
        self.assertEqual(run(CLEAR, CLEAR, MIRROR), [[0], [0], AT_FIRST])

    def test_behind_clear_the_ticks_begin_anew(self):
        self.assertEqual(run(KNOWN, CLEAR, KNOWN, MIRROR)[1:], [[0], [0, 1], KNOWN_SHOWN])
        self.assertEqual(run(KNOWN, CLEAR, feed([0, 0]), feed([1, 0]))[2:], [[-7], [0, 0]])
        self.assertEqual(last(KNOWN, CLEAR, feed([4, 1, 3, 5])), [-8])

    def test_clear_leaves_the_world_alone(self):
        calls = [make_row(1, 3, [1, 2, 3, 4, 5, 6, 7, 8]), join(0, 1), TICK, sent(0), told(0)]
        plain = run(*calls, sent(0), told(0), TICK)
        self.assertEqual(run(*calls, CLEAR, sent(0), told(0), TICK), [*plain[:5], [0], *plain[5:]])

    def test_a_mirror_stays_when_players_part(self):
        self.assertEqual(last(join(0, 0), KNOWN, part(0), TICK, MIRROR), KNOWN_SHOWN)

    def test_what_the_mirror_heard_is_not_changed_by_the_world(self):
        self.assertEqual(last(make(5, 50, 50), KNOWN, [2, 5, 9, 9], [3, 5, 2, 9], [1, 5], TICK, MIRROR), KNOWN_SHOWN)


if __name__ == "__main__":
    unittest.main()
