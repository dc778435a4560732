"""The calls that change the mirror: feed and clear."""

from seenareas.model import Mirror, OVERTAKEN, Thing, UNFITTING, UNREADABLE, WRONG
from seenareas.reading import NoStream, read_stream
from seenareas.wire import ENTERS, LEAVES


def are_bytes(numbers):
    return all([0 <= number <= 255 for number in numbers])


def is_fitting(things, message):
    old = things.get(message.n)
    if message.what == ENTERS:
        return old is None
    if old is None:
        return False
    return all([value != old.state[i] for i, value in message.fresh.items()])


def hear_message(things, message):
    n = message.n
    if message.what == LEAVES:
        things.pop(n)
    elif message.what == ENTERS:
        things[n] = Thing(message.kind, list(message.fresh.values()))
    else:
        old = things[n]
        things[n] = Thing(old.kind, [message.fresh.get(i, value) for i, value in enumerate(old.state)])


# What is in the mirror behind the messages, or None if one of them doesn't fit.
# It is another dict: a stream that fits only up to some message must change nothing.
def things_behind(mirror, messages):
    things = dict(mirror.things)
    for message in messages:
        if not is_fitting(things, message):
            return None
        hear_message(things, message)
    return things


def feed_mirror(world, numbers):
    if not are_bytes(numbers):
        return [WRONG]
    try:
        stream = read_stream(numbers)
    except NoStream:
        return [UNREADABLE]
    if stream.tick <= world.mirror.tick:
        return [OVERTAKEN]
    things = things_behind(world.mirror, stream.messages)
    if things is None:
        return [UNFITTING]
    world.mirror = Mirror(stream.tick, things)
    return [0, len(stream.messages)]


def clear_mirror(world, numbers):
    world.mirror = Mirror(0, {})
    return [0]


MIRRORS = {
    16: feed_mirror,
    18: clear_mirror,
}
