"""Calls by name, their answers one by one, a reader and a writer of streams, for the tests."""

from seenareas.world import answers

TICK = [9]
MIRROR = [17]
CLEAR = [18]
STATE = [20]
LOW = -3000000000
HIGH = 3000000000


def make(n, x=0, y=0, kind=0, rest=(0, 0, 0, 0, 0, 0)):
    return make_row(n, kind, [x, y, *rest])


def make_row(n, kind, values):
    return [0, n, kind, len(values), *values]


def drop(n):
    return [1, n]


def move(n, x, y):
    return [2, n, x, y]


def set_value(n, i, z):
    return [3, n, i, z]


def wall(x, y, x_other, y_other):
    return [4, x, y, x_other, y_other]


def unwall(i):
    return [5, i]


def rank(kind, number):
    return [6, kind, number]


def join(n, own, team=0, inner=10, outer=20, budget=4096):
    return [7, n, own, team, inner, outer, budget]


def part(n):
    return [8, n]


def sent(n):
    return [10, n]


def sees(n):
    return [11, n]


def waits(n):
    return [12, n]


def told(n):
    return [13, n]


def around(x, y, r):
    return [14, x, y, r]


def line(x, y, x_other, y_other):
    return [15, x, y, x_other, y_other]


def feed(row):
    return [16, len(row), *row]


def thing(n):
    return [19, n]


def flat(calls):
    return [number for call in calls for number in call]


def split(row):
    """One list for each call."""
    parts = []
    at = 0
    while at < len(row):
        end = at + 1 + row[at]
        parts.append(row[at + 1:end])
        at = end
    return parts


def run(*calls):
    parts = split(answers(flat(calls)))
    if len(parts) != len(calls):
        raise AssertionError(f"{len(calls)} calls, {len(parts)} answers")
    return parts


def last(*calls):
    return run(*calls)[-1]


def whole(number):
    row = []
    while number > 127:
        row.append(number & 127 | 128)
        number >>= 7
    return [*row, number]


def value(z):
    return whole(2 * z if z >= 0 else -2 * z - 1)


def enters(n, kind=0, values=(0,) * 8):
    return [1, *whole(n), *whole(kind), *flat(value(z) for z in values)]


def changes(n, changed):
    return [2, *whole(n), sum(2 ** i for i in changed), *flat(value(changed[i]) for i in sorted(changed))]


def leaves(n):
    return [3, *whole(n)]


def stream(tick, *messages):
    return [*whole(tick), *whole(len(messages)), *flat(messages)]


def read_whole(row, at):
    number = 0
    times = 1
    while row[at] >= 128:
        number += (row[at] - 128) * times
        times *= 128
        at += 1
    return number + row[at] * times, at + 1


def read_values(row, at, how_many):
    values = []
    for _ in range(how_many):
        number, at = read_whole(row, at)
        values.append(number // 2 if number % 2 == 0 else -(number + 1) // 2)
    return values, at


def read_message(row, at):
    sort = row[at]
    n, at = read_whole(row, at + 1)
    if sort == 1:
        kind, at = read_whole(row, at)
        values, at = read_values(row, at, 8)
        return ("enters", n, kind, values), at
    if sort == 2:
        indexes = [i for i in range(8) if row[at] >> i & 1]
        values, at = read_values(row, at + 1, len(indexes))
        return ("changes", n, dict(zip(indexes, values))), at
    if sort != 3:
        raise AssertionError(f"a message begins with {sort}")
    return ("leaves", n), at


def read_stream(row):
    """The tick's number and the messages of a stream."""
    tick, at = read_whole(row, 0)
    how_many, at = read_whole(row, at)
    messages = []
    for _ in range(how_many):
        message, at = read_message(row, at)
        messages.append(message)
    if at != len(row):
        raise AssertionError("bytes are left behind the messages")
    return tick, messages


def messages_of(answer):
    """The messages in an answer of the call sent."""
    if answer[0] != 0:
        raise AssertionError(f"refused: {answer}")
    return read_stream(answer[1:])[1]


def brief(answer):
    """The messages in an answer of the call sent, as pairs of what and which thing."""
    return [message[:2] for message in messages_of(answer)]


def told_now(*calls):
    """What player 0 is told in a tick behind these calls."""
    return brief(last(*calls, TICK, sent(0)))


def hear(mirror, messages):
    """Changes a dict from things' numbers to kind and values; fails if a message doesn't fit it."""
    for message in messages:
        n = message[1]
        if (message[0] == "enters") == (n in mirror):
            raise AssertionError(f"{message} doesn't fit")
        if message[0] == "enters":
            mirror[n] = (message[2], message[3])
        elif message[0] == "leaves":
            mirror.pop(n)
        else:
            hear_change(mirror, n, message[2])


def hear_change(mirror, n, changed):
    kind, values = mirror[n]
    values = list(values)
    if not changed:
        raise AssertionError("no value changes")
    for i, value in changed.items():
        if values[i] == value:
            raise AssertionError("a value changes to itself")
        values[i] = value
    mirror[n] = (kind, values)
