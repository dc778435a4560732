"""What players see: by themselves, and with their teams."""

from seenareas.lines import meeting


def is_within(place, other, radius):
    x = place[0] - other[0]
    y = place[1] - other[1]
    return x * x + y * y <= radius * radius


def is_hidden(walls, place, other):
    line = (place[0], place[1], other[0], other[1])
    for wall in walls:
        if meeting(line, wall) is not None:
            return True
    return False


def seen_alone(world, player):
    own = world.things.get(player.own)
    if own is None:
        return {}
    seen = {player.own: own}
    for n, thing in world.things.items():
        radius = player.outer if n in player.alone else player.inner
        if is_within(thing.state, own.state, radius) and not is_hidden(world.walls, own.state, thing.state):
            seen[n] = thing
    return seen


def seen_with_team(world, player):
    seen = dict(player.alone)
    if player.team == 0:
        return seen
    for other in world.players.values():
        if other.team == player.team:
            seen.update(other.alone)
    return seen


# What all see by themselves comes first: what one sees with its team hangs on it.
def look(world):
    for player in world.players.values():
        player.alone = seen_alone(world, player)
    for player in world.players.values():
        player.seen = seen_with_team(world, player)
