"""The calls tick and sent."""

from seenareas.model import ENDED, MISSING
from seenareas.sight import look
from seenareas.telling import tell

LAST_TICK = 100000


def run_tick(world, numbers):
    if world.tick == LAST_TICK:
        return [ENDED]
    world.tick += 1
    look(world)
    answer = [0, world.tick]
    for n in sorted(world.players):
        player = world.players[n]
        tell(player, world.ranks, world.tick)
        answer.extend([n, len(player.sent), len(player.waiting)])
    return answer


def last_stream(world, numbers):
    n = numbers[0]
    if n not in world.players:
        return [MISSING]
    return [0] + world.players[n].sent


TICKS = {
    9: run_tick,
    10: last_stream,
}
