"""The calls that change what is in a world: things, walls, ranks, players."""

from seenareas.model import FULL, KINDS, MISSING, Player, STATE_SIZE, TAKEN, Thing, WRONG

MOST_THINGS = 64
MOST_WALLS = 32
MOST_PLAYERS = 8
LAST_THING = 9999
LAST_PLAYER = 99
LAST_TEAM = 9
FARTHEST = 100000
GREATEST_VALUE = 2147483647
GREATEST_RANK = 100
GREATEST_RADIUS = 10000
LEAST_BUDGET = 64
GREATEST_BUDGET = 4096


def are_places(numbers):
    return all([-FARTHEST <= number <= FARTHEST for number in numbers])


def are_values(numbers):
    return all([-GREATEST_VALUE <= number <= GREATEST_VALUE for number in numbers])


def is_state(numbers):
    return len(numbers) == STATE_SIZE and are_places(numbers[:2]) and are_values(numbers[2:])


def make_thing(world, numbers):
    n = numbers[0]
    kind = numbers[1]
    state = numbers[2:]
    if not (0 <= n <= LAST_THING and 0 <= kind < KINDS and is_state(state)):
        return [WRONG]
    if n in world.things:
        return [TAKEN]
    if len(world.things) == MOST_THINGS:
        return [FULL]
    world.things[n] = Thing(kind, state)
    return [0]


def drop_thing(world, numbers):
    n = numbers[0]
    if n not in world.things:
        return [MISSING]
    world.things.pop(n)
    return [0]


def move_thing(world, numbers):
    n = numbers[0]
    place = numbers[1:]
    if n not in world.things:
        return [MISSING]
    if not are_places(place):
        return [WRONG]
    thing = world.things[n]
    world.things[n] = Thing(thing.kind, place + thing.state[2:])
    return [0]


def set_value(world, numbers):
    n = numbers[0]
    i = numbers[1]
    if n not in world.things:
        return [MISSING]
    if not (2 <= i < STATE_SIZE and are_values(numbers[2:])):
        return [WRONG]
    thing = world.things[n]
    world.things[n] = Thing(thing.kind, thing.state[:i] + numbers[2:] + thing.state[i + 1:])
    return [0]


def put_wall(world, numbers):
    if not are_places(numbers):
        return [WRONG]
    if len(world.walls) == MOST_WALLS:
        return [FULL]
    world.walls.append(numbers)
    return [len(world.walls) - 1]


def take_wall(world, numbers):
    i = numbers[0]
    if not 0 <= i < len(world.walls):
        return [MISSING]
    world.walls.pop(i)
    return [0]


def rank_kind(world, numbers):
    kind = numbers[0]
    rank = numbers[1]
    if not (0 <= kind < KINDS and 0 <= rank <= GREATEST_RANK):
        return [WRONG]
    world.ranks[kind] = rank
    return [0]


def is_player(numbers):
    inner = numbers[3]
    outer = numbers[4]
    return (
        0 <= numbers[0] <= LAST_PLAYER
        and 0 <= numbers[1] <= LAST_THING
        and 0 <= numbers[2] <= LAST_TEAM
        and 0 <= inner <= outer <= GREATEST_RADIUS
        and LEAST_BUDGET <= numbers[5] <= GREATEST_BUDGET
    )


def join_player(world, numbers):
    n = numbers[0]
    if not is_player(numbers):
        return [WRONG]
    if n in world.players:
        return [TAKEN]
    if len(world.players) == MOST_PLAYERS:
        return [FULL]
    world.players[n] = Player(numbers[1], numbers[2], numbers[3], numbers[4], numbers[5])
    return [0]


def part_player(world, numbers):
    n = numbers[0]
    if n not in world.players:
        return [MISSING]
    world.players.pop(n)
    return [0]


EDITS = {
    0: make_thing,
    1: drop_thing,
    2: move_thing,
    3: set_value,
    4: put_wall,
    5: take_wall,
    6: rank_kind,
    7: join_player,
    8: part_player,
}
