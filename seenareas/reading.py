"""How a row of bytes is read as a stream."""

from seenareas.model import STATE_SIZE
from seenareas.wire import CHANGES, ENTERS, LEAVES

# 2 to the power 40: whole numbers in a stream are below it.
TOO_GREAT = 1099511627776


class NoStream(Exception):
    pass


# The bytes, and how many of them have been read.
class Source:
    def __init__(self, row):
        self.row = row
        self.at = 0


# what is ENTERS, CHANGES or LEAVES; fresh is a dict from the numbers of the values
# told to these values: all that enter, those that change, none that leave.
class Message:
    def __init__(self, what, n, kind, fresh):
        self.what = what
        self.n = n
        self.kind = kind
        self.fresh = fresh


class Stream:
    def __init__(self, tick, messages):
        self.tick = tick
        self.messages = messages


def take_byte(source):
    if source.at == len(source.row):
        raise NoStream("the row ends too early")
    source.at += 1
    return source.row[source.at - 1]


def take_whole(source):
    number = 0
    times = 1
    byte = take_byte(source)
    while byte >= 128:
        number += (byte - 128) * times
        times = times * 128
        byte = take_byte(source)
    if byte == 0 and times > 1:
        raise NoStream("a whole number has more bytes than need be")
    number += byte * times
    if number >= TOO_GREAT:
        raise NoStream("a whole number is too great")
    return number


def take_value(source):
    number = take_whole(source)
    return number // 2 if number % 2 == 0 else -((number + 1) // 2)


def take_values(source, indexes):
    fresh = {}
    for i in indexes:
        fresh[i] = take_value(source)
    return fresh


def take_indexes(source):
    changed = take_byte(source)
    if changed == 0:
        raise NoStream("no value changes")
    return [i for i in range(STATE_SIZE) if (changed >> i) % 2 == 1]


def take_message(source):
    what = take_byte(source)
    if what not in (ENTERS, CHANGES, LEAVES):
        raise NoStream("no message begins with this byte")
    n = take_whole(source)
    if what == ENTERS:
        kind = take_whole(source)
        return Message(what, n, kind, take_values(source, list(range(STATE_SIZE))))
    if what == CHANGES:
        return Message(what, n, 0, take_values(source, take_indexes(source)))
    return Message(what, n, 0, {})


def read_stream(row):
    source = Source(row)
    tick = take_whole(source)
    how_many = take_whole(source)
    messages = []
    while len(messages) < how_many:
        messages.append(take_message(source))
    if source.at < len(row):
        raise NoStream("bytes are left")
    return Stream(tick, messages)
