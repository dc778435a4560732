"""What a player is told in a tick, and what waits."""

from seenareas.wire import CHANGES, ENTERS, LEAVES, changes_bytes, enters_bytes, leaves_bytes, stream_bytes

NOTHING = 0
HEAD_ROOM = 8
RANKS_A_TICK = 10


def what_is_due(player, n):
    told = player.told.get(n)
    seen = player.seen.get(n)
    if told is None:
        return NOTHING if seen is None else ENTERS
    if seen is None or seen.kind != told.kind:
        return LEAVES
    return NOTHING if seen.state == told.state else CHANGES


def due_things(player):
    numbers = sorted(set(player.seen) | set(player.told))
    return [n for n in numbers if what_is_due(player, n) != NOTHING]


def waiting_since(player, tick):
    since = {}
    for n in due_things(player):
        since[n] = player.waiting.get(n, tick)
    return since


def kind_for_rank(player, n):
    return player.told[n].kind if n in player.told else player.seen[n].kind


def in_turn(player, ranks, since):
    return sorted(since, key=lambda n: (RANKS_A_TICK * since[n] - ranks[kind_for_rank(player, n)], n))


def message_due(player, n):
    due = what_is_due(player, n)
    if due == ENTERS:
        return enters_bytes(n, player.seen[n])
    if due == LEAVES:
        return leaves_bytes(n)
    return changes_bytes(n, player.told[n], player.seen[n])


def mark_told(player, n):
    if what_is_due(player, n) == LEAVES:
        player.told.pop(n)
    else:
        player.told[n] = player.seen[n]


def tell_in_turn(player, turn):
    room = player.budget - HEAD_ROOM
    messages = []
    for n in turn:
        message = message_due(player, n)
        room -= len(message)
        if room < 0:
            break
        messages.append(message)
        mark_told(player, n)
    return messages


def still_waiting(player, since):
    waiting = {}
    for n in due_things(player):
        waiting[n] = since[n]
    return waiting


def tell(player, ranks, tick):
    since = waiting_since(player, tick)
    turn = in_turn(player, ranks, since)
    messages = tell_in_turn(player, turn)
    # A thing told of as leaving may be due to enter: that begins to wait anew.
    for n in turn[:len(messages)]:
        since[n] = tick
    player.waiting = still_waiting(player, since)
    player.sent = stream_bytes(tick, messages)
