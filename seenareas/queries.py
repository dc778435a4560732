"""The calls that ask and change nothing, but for sent."""

from seenareas.edits import are_places
from seenareas.lines import first_meeting, least_terms
from seenareas.model import MISSING, WRONG
from seenareas.sight import is_within

GREATEST_DISTANCE = 200000
SQUARE = 64


def with_count(things):
    return [len(things)] + sorted(things)


def in_full(things):
    row = [len(things)]
    for n in sorted(things):
        row.extend([n, things[n].kind] + things[n].state)
    return row


def what_is_seen(world, numbers):
    player = world.players.get(numbers[0])
    if player is None:
        return [MISSING]
    return [0] + with_count(player.alone) + with_count(player.seen)


def what_waits(world, numbers):
    player = world.players.get(numbers[0])
    if player is None:
        return [MISSING]
    answer = [0]
    for n in sorted(player.waiting):
        answer.extend([n, player.waiting[n]])
    return answer


def what_was_told(world, numbers):
    player = world.players.get(numbers[0])
    if player is None:
        return [MISSING]
    return [0] + in_full(player.told)


def what_is_around(world, numbers):
    place = numbers[:2]
    radius = numbers[2]
    if not (are_places(place) and 0 <= radius <= GREATEST_DISTANCE):
        return [WRONG]
    return [0] + [n for n in sorted(world.things) if is_within(world.things[n].state, place, radius)]


def what_is_met(world, numbers):
    if not are_places(numbers):
        return [WRONG]
    first = first_meeting(numbers, world.walls)
    if first is None:
        return [0, 0]
    return [0, 1, first[0]] + least_terms(first[1])


def what_is_mirrored(world, numbers):
    return [0, world.mirror.tick] + in_full(world.mirror.things)


def what_is_there(world, numbers):
    thing = world.things.get(numbers[0])
    if thing is None:
        return [MISSING]
    return [0, thing.kind] + thing.state


# Rounding down, below 0 too, puts a place on a lower or left side into this square.
def count_squares(things):
    return len(set([(thing.state[0] // SQUARE, thing.state[1] // SQUARE) for thing in things.values()]))


def world_in_brief(world, numbers):
    counts = [len(world.things), len(world.walls), count_squares(world.things)]
    return [0, world.tick] + counts + sorted(world.players)


QUERIES = {
    11: what_is_seen,
    12: what_waits,
    13: what_was_told,
    14: what_is_around,
    15: what_is_met,
    17: what_is_mirrored,
    19: what_is_there,
    20: world_in_brief,
}
