"""The promises, on worlds drawn by a fixed seed: each stream is checked against the document's points."""

import random
import unittest

from tests.helper import (
    CLEAR, MIRROR, STATE, TICK, around, drop, enters, feed, hear, join, last, line, make, messages_of, move, part, rank,
    read_stream, run, sees, sent, set_value, stream, thing, told, unwall, waits, wall,
)
from tests.test_walls import slow_meeting


def slow_sees(world, player):
    """The numbers of the things that a player sees by itself, word by word as point 1 says it."""
    things = world["things"]
    if player["own"] not in things:
        return set()
    own = things[player["own"]][1]
    seen = set()
    for n, (kind, values) in things.items():
        squared = (values[0] - own[0]) ** 2 + (values[1] - own[1]) ** 2
        line = (own[0], own[1], values[0], values[1])
        hidden = any(slow_meeting(line, ends) is not None for ends in world["walls"])
        near = squared <= player["inner"] ** 2 or n in player["alone"]
        if n == player["own"] or (squared <= player["outer"] ** 2 and not hidden and near):
            seen.add(n)
    return seen


def slow_message(told, seen):
    """What is due of a thing, less its number; None if nothing is."""
    if told == seen:
        return None
    if told is None:
        return ("enters", seen[0], seen[1])
    if seen is None or seen[0] != told[0]:
        return ("leaves",)
    return ("changes", {i: seen[1][i] for i in range(8) if seen[1][i] != told[1][i]})


def slow_length(n, message):
    def length(number):
        return max(1, (number.bit_length() + 6) // 7)

    values = {"enters": lambda: message[2], "changes": lambda: message[1].values(), "leaves": lambda: []}[message[0]]()
    return 1 + length(n) + (message[0] != "leaves") + sum(length(2 * z if z >= 0 else -2 * z - 1) for z in values)


class Drawn:
    """A world drawn by a seed, with its calls and what the world holds behind each of them."""

    def __init__(self, seed, ticks):
        self.random = random.Random(seed)
        self.world = {"things": {}, "walls": [], "ranks": [0] * 8}
        self.calls = []
        self.states = []
        self.players = {}
        for n in range(self.random.randint(1, 5)):
            self.join(n)
        for _ in range(self.random.randint(5, 20)):
            self.make()
        for _ in range(ticks):
            for _ in range(self.random.randint(0, 3)):
                self.random.choice([self.make, self.drop, self.move, self.move, self.set, self.wall, self.rank])()
            self.tick()

    def join(self, n):
        inner = self.random.randint(0, 12)
        player = {"own": self.random.randint(0, 5), "team": self.random.randint(0, 2), "inner": inner}
        player.update(outer=inner + self.random.randint(0, 8), budget=self.random.choice([64, 64, 70, 100, 4096]))
        self.players[n] = player
        self.calls.append(join(n, **player))

    def place(self):
        return [self.random.randint(-8, 8), self.random.randint(-8, 8)]

    def make(self):
        n = self.random.choice([0, 1, 2, 3, 4, 5, 6, 7, 8, 127, 128, 500, 501, 502, 9998, 9999])
        kind = self.random.randint(0, 3)
        values = self.place() + [self.random.choice([0, 1, -64, -65, 8191, 2147483647, -2147483647]) for _ in range(6)]
        self.calls.append(make(n, *values[:2], kind, values[2:]))
        self.world["things"].setdefault(n, (kind, values))

    def some_thing(self):
        return self.random.choice(sorted(self.world["things"]) or [0])

    def drop(self):
        n = self.some_thing()
        self.calls.append(drop(n))
        self.world["things"].pop(n, None)

    def move(self):
        n = self.some_thing()
        place = self.place()
        self.calls.append(move(n, *place))
        if n in self.world["things"]:
            kind, values = self.world["things"][n]
            self.world["things"][n] = (kind, place + values[2:])

    def set(self):
        n = self.some_thing()
        i = self.random.randint(2, 7)
        z = self.random.choice([0, 1, 63, 64, 2147483647])
        self.calls.append(set_value(n, i, z))
        if n in self.world["things"]:
            kind, values = self.world["things"][n]
            self.world["things"][n] = (kind, values[:i] + [z] + values[i + 1:])

    def wall(self):
        if self.world["walls"] and self.random.randint(0, 1):
            i = self.random.randrange(len(self.world["walls"]))
            self.calls.append(unwall(i))
            self.world["walls"].pop(i)
            return
        ends = self.place() + self.place()
        if self.random.randint(0, 3) == 0:
            ends = ends[:2] * 2
        self.calls.append(wall(*ends))
        self.world["walls"].append(ends)

    def rank(self):
        kind = self.random.randint(0, 3)
        number = self.random.choice([0, 5, 10, 20, 30, 100])
        self.calls.append(rank(kind, number))
        self.world["ranks"][kind] = number

    def tick(self):
        self.calls.append(TICK)
        self.calls.extend(sent(n) for n in sorted(self.players))
        state = {"things": dict(self.world["things"]), "walls": list(self.world["walls"])}
        self.states.append({**state, "ranks": list(self.world["ranks"])})


class Follower:
    """Follows what is sent to the players of a drawn world, and checks it."""

    def __init__(self, test, drawn):
        self.test = test
        self.players = drawn.players
        for player in self.players.values():
            player.update(alone=set(), told={}, waiting={}, most=0)

    def tick(self, number, world, answer, streams):
        """Streams are the answers of sent for all players, by rising numbers."""
        for player in self.players.values():
            player["alone"] = slow_sees(world, player)
        expected = [0, number]
        for n, stream in zip(sorted(self.players), streams):
            player = self.players[n]
            seen = set(player["alone"])
            for other in self.players.values():
                if other["team"] == player["team"] != 0:
                    seen |= other["alone"]
            player["seen"] = seen
            self.stream(number, world, player, {n: world["things"][n] for n in seen}, stream)
            expected += [n, len(stream) - 1, len(player["waiting"])]
        self.test.assertEqual(answer, expected)

    def due(self, player, seen):
        pairs = {n: slow_message(player["told"].get(n), seen.get(n)) for n in {*seen, *player["told"]}}
        return {n: message for n, message in pairs.items() if message is not None}

    def stream(self, number, world, player, seen, stream):
        due = self.due(player, seen)
        since = {n: player["waiting"].get(n, number) for n in due}
        player["most"] = max(player["most"], len(due))

        def turn(n):
            kind = player["told"][n][0] if n in player["told"] else seen[n][0]
            return 10 * since[n] - world["ranks"][kind], n

        expected = []
        room = player["budget"] - 8
        for n in sorted(due, key=turn):
            room -= slow_length(n, due[n])
            if room < 0:
                break
            expected.append((due[n][0], n, *due[n][1:]))
            since[n] = number
        self.test.assertEqual(read_stream(stream[1:]), (number, expected))
        self.test.assertLessEqual(len(stream) - 1, player["budget"])
        hear(player["told"], expected)
        player["waiting"] = {n: since[n] for n in self.due(player, seen)}
        for begun in player["waiting"].values():
            self.test.assertLessEqual(number - begun, 10 + player["most"])
        if not player["waiting"]:
            self.test.assertEqual(player["told"], seen)


def rows_behind_ticks(drawn, ask):
    """For each tick its answer and, for each player, the answer of ask in the place of sent."""
    calls = [ask(call[1]) if call[0] == 10 else call for call in drawn.calls]
    answered = run(*calls)
    places = [i for i, call in enumerate(calls) if call == TICK]
    return [(answered[at], answered[at + 1:at + 1 + len(drawn.players)]) for at in places]


def shown(things):
    """A dict of kinds and values as told and mirror answer it."""
    row = [len(things)]
    for n in sorted(things):
        row += [n, things[n][0], *things[n][1]]
    return row


class EveryStream(unittest.TestCase):
    def test_drawn_worlds(self):
        for seed in range(60):
            drawn = Drawn(seed, 30)
            asked = [rows_behind_ticks(drawn, ask) for ask in (sent, sees, waits, told)]
            follower = Follower(self, drawn)
            for number, (world, *rows) in enumerate(zip(drawn.states, *asked), start=1):
                self.assertEqual([row[0] for row in rows], [rows[0][0]] * 4)
                follower.tick(number, world, *rows[0])
                for i, n in enumerate(sorted(drawn.players)):
                    self.check(drawn.players[n], *[row[1][i] for row in rows[1:]])

    def check(self, player, seen, waiting, told_of):
        alone = sorted(player["alone"])
        everything = sorted(player["seen"])
        self.assertEqual(seen, [0, len(alone), *alone, len(everything), *everything])
        self.assertEqual(waiting, [0, *[number for pair in sorted(player["waiting"].items()) for number in pair]])
        self.assertEqual(told_of, [0, *shown(player["told"])])


class MirrorShowsWhatWasTold(unittest.TestCase):
    """Promise 1: fed with all streams since a player joined, a mirror is what the player was told."""

    def follow(self, calls, n):
        """Feeds what is sent to a player in each tick, and compares."""
        asking = []
        for call in calls:
            asking += [call, sent(n)] if call == TICK else [call]
        streams = [feed(row[1:]) for call, row in zip(asking, run(*asking)) if call == sent(n)]
        feeding = []
        for call in calls:
            feeding += [call, streams.pop(0), MIRROR, told(n)] if call == TICK else [call]
        self.assertLessEqual(len(feeding), 300)
        answered = run(*feeding)
        heard = 0
        for at, call in enumerate(feeding):
            if call == TICK:
                number = answered[at][1]
                heard += answered[at + 1][1]
                self.assertEqual(answered[at + 2], [0, number, *answered[at + 3][1:]])
        return heard

    def test_drawn_worlds(self):
        heard = 0
        for seed in range(40):
            drawn = Drawn(seed, 30)
            for n in drawn.players:
                heard += self.follow([call for call in drawn.calls if call[0] != 10], n)
        self.assertGreater(heard, 1000)

    def test_another_kind_leavings_and_little_room(self):
        calls = [make(n, kind=1, rest=[2147483647] * 6) for n in range(5)] + [join(0, 0, budget=64), TICK, TICK, TICK]
        calls += [drop(1), make(1, kind=2), drop(2), TICK, drop(3), make(3, kind=5), TICK, TICK, TICK, drop(0), TICK]
        self.assertGreater(self.follow(calls, 0), 10)

    def test_a_player_that_joined_late(self):
        calls = [make(0), make(1), join(0, 0), TICK, TICK, TICK, join(1, 0), TICK, sent(1)]
        row = last(*calls)[1:]
        answered = run(*calls, feed(row), MIRROR, told(1))
        self.assertEqual(answered[-2], [0, 4, *answered[-1][1:]])

    def test_a_player_that_joined_anew_begins_anew(self):
        calls = [make(0), make(1, 5), join(0, 0), TICK, sent(0), part(0), join(0, 0), TICK, sent(0)]
        rows = [row[1:] for call, row in zip(calls, run(*calls)) if call == sent(0)]
        answered = run(*calls, feed(rows[0]), feed(rows[1]), CLEAR, feed(rows[1]), MIRROR, told(0))
        self.assertEqual(answered[-6:-2], [[0, 2], [-8], [0], [0, 2]])
        self.assertEqual(answered[-2], [0, 2, *answered[-1][1:]])


class NothingWaits(unittest.TestCase):
    """Promise 2: where nothing waits the player was told just what it sees, as it is."""

    def test_drawn_worlds(self):
        often = 0
        for seed in range(60, 100):
            drawn = Drawn(seed, 30)
            asked = [rows_behind_ticks(drawn, ask) for ask in (sees, waits, told)]
            for world, seen, waiting, told_of in zip(drawn.states, *asked):
                for i in range(len(drawn.players)):
                    if waiting[1][i] == [0]:
                        numbers = seen[1][i][seen[1][i][1] + 3:]
                        self.assertEqual(told_of[1][i], [0, *shown({n: world["things"][n] for n in numbers})])
                        often += numbers != []
        self.assertGreater(often, 100)

    def test_as_soon_as_nothing_waits_and_not_before(self):
        things = [make(n, n, 0, n, [2147483647 - n] * 6) for n in range(4)]
        now = [thing(n) for n in range(4)]
        steps = [TICK, waits(0), told(0), sees(0)]
        calls = [*things, join(0, 0, budget=64), *steps * 3, drop(3), *steps, *now[:3]]
        answered = run(*calls)
        self.assertEqual([row for call, row in zip(calls, answered) if call == waits(0)][2:], [[0, 3, 1], [0]])
        told_of = [row for call, row in zip(calls, answered) if call == told(0)]
        seen = [row for call, row in zip(calls, answered) if call == sees(0)]
        self.assertEqual([row[1] for row in told_of], [1, 2, 3, 3])
        self.assertEqual(seen[2:], [[0, 4, 0, 1, 2, 3, 4, 0, 1, 2, 3], [0, 3, 0, 1, 2, 3, 0, 1, 2]])
        as_is = [number for n, row in enumerate(answered[-3:]) for number in (n, *row[1:])]
        self.assertEqual(told_of[3], [0, 3, *as_is])


class NothingStarves(unittest.TestCase):
    """Promise 3: no stream is longer than the budget, and nothing waits too long."""

    def test_the_last_in_rank_is_told_in_time(self):
        # Each tick two things of the greatest rank change, by 33 bytes each: there's room
        # for one. 0 waits since the third tick, and ten ticks make up for a rank of 100.
        calls = [rank(1, 100), make(0), make(1, kind=1), make(2, kind=1), join(0, 0, budget=64), TICK, TICK]
        calls += [set_value(0, 2, 5)]
        for tick in range(3, 20):
            for n in (1, 2):
                calls += [set_value(n, i, 2147483647 - tick) for i in range(2, 8)]
            calls += [TICK, sent(0)]
        answered = run(*calls)
        self.assertTrue(all(row[3] <= 64 for call, row in zip(calls, answered) if call == TICK))
        streams = [read_stream(row[1:]) for call, row in zip(calls, answered) if call == sent(0)]
        self.assertEqual([tick for tick, told in streams if ("changes", 0, {2: 5}) in told], [13])

    def test_all_that_wait_are_told_one_a_tick(self):
        long = [2147483647] * 6
        calls = [make(n, rest=long) for n in range(64)] + [join(0, 0, budget=64)]
        answered = run(*calls, *[TICK] * 70)
        self.assertEqual([row[4] for row in answered[65:]], [63 - tick if tick < 64 else 0 for tick in range(70)])
        self.assertTrue(all(row[3] <= 64 for row in answered[65:]))

    def test_the_greatest_stream_is_within_the_greatest_budget(self):
        long = [-2147483647] * 6
        calls = [make(9999 - n, 100000, 100000, 7, long) for n in range(64)]
        answered = run(*calls, join(0, 9999, budget=4096), join(1, 9999, budget=40 * 64 + 7), TICK)
        self.assertEqual(answered[-1], [0, 1, 0, 2 + 64 * 40, 0, 1, 2 + 63 * 40, 1])


class OnlyWhatIsSeen(unittest.TestCase):
    """Promise 4: what is out of sight changes no stream."""

    def streams(self, calls):
        return [answer for call, answer in zip(calls, run(*calls)) if call == sent(0)]

    def shown(self, calls):
        """The same calls, and with each stream what the player saw, was told, and what waits."""
        asking = []
        for call in calls:
            asking += [call, sees(0), waits(0), told(0)] if call == sent(0) else [call]
        return [answer for call, answer in zip(asking, run(*asking)) if call[0] in (10, 11, 12, 13) and call[1] == 0]

    def story(self, aside):
        """A player's ticks in which things come and go; aside(i) are calls that must not matter to it."""
        calls = [wall(-5, -9, -5, 9), rank(1, 30), make(0), make(1, 5, kind=1), make(2, 12), make(3, 200), *aside(0)]
        calls += [join(0, 0, team=3, budget=64), join(1, 3, team=3, inner=5, outer=5), *aside(1), TICK, sent(0)]
        calls += [make(4, 3, 3, 2, [2147483647] * 6), make(5, 203), set_value(1, 2, 9), *aside(2), TICK, sent(0)]
        calls += [move(2, 10, 0), move(5, 206, 0), drop(1), *aside(3), TICK, sent(0)]
        calls += [move(2, 20, 0), make(1, 5, kind=2), wall(2, 2, 4, 2), *aside(4), TICK, sent(0), TICK, sent(0)]
        return calls + [unwall(1), *aside(5), TICK, sent(0), TICK, sent(0), TICK, sent(0)]

    def assert_same(self, aside):
        plain = self.streams(self.story(lambda i: []))
        self.assertEqual(self.streams(self.story(aside)), plain)
        self.assertEqual(self.shown(self.story(aside)), self.shown(self.story(lambda i: [])))
        self.assertGreater(sum(len(messages_of(answer)) for answer in plain), 10)

    def test_things_beyond_the_outer_circles(self):
        self.assert_same(lambda i: [make(1000 + i, 21, i), make(2000 + i, 190 - i, 0, 1), set_value(1000, 2, i)])

    def test_things_that_go_again_before_a_tick(self):
        self.assert_same(lambda i: [make(50, 1, 1), set_value(50, 2, i), drop(50)])

    def test_things_behind_a_wall(self):
        self.assert_same(lambda i: [make(60 + i, -6, i), move(60, -7, i), set_value(60, 2, i)])

    def test_players_of_other_teams(self):
        joined = [join(9, 1, team=4, inner=10000, outer=10000), join(10, 2, budget=64), join(11, 0, team=0)]
        self.assert_same(lambda i: [[*joined], [], [part(9)], [join(9, 3, team=1)], [part(10), part(11)], []][i])

    def test_questions_and_the_mirror(self):
        asked = [sees(1), waits(1), told(1), around(0, 0, 9), line(0, 0, 9, 9), MIRROR, STATE, thing(0), thing(77)]
        heard = [CLEAR, feed(stream(9, enters(0, 5), enters(4, 1))), feed([9, 0])]
        self.assert_same(lambda i: asked + heard)

    def test_other_budgets_in_the_team(self):
        self.assert_same(lambda i: [join(7, 0, team=3, inner=10, outer=20, budget=64)] if i == 1 else [])

    def test_walls_that_hide_nothing_of_what_is_near(self):
        self.assert_same(lambda i: [wall(-100 - i, -9, -100, 9), wall(1, 2, 1, 2)] if i > 3 else [])

    def test_calls_that_are_refused(self):
        refused = [make(0, kind=1), drop(77), move(1, 0, 200000), set_value(0, 1, 1), wall(0, 0, 0, 100001), unwall(-1)]
        refused += [rank(1, 101), join(0, 1, budget=63), join(100, 0), part(77), sees(77), waits(77), told(77)]
        refused += [around(0, 0, -1), line(0, 0, 0, 100001), feed([]), feed([256]), feed([0, 0]), feed([1, 1, 3, 0])]
        self.assert_same(lambda i: refused)


if __name__ == "__main__":
    unittest.main()
