"""How whole numbers, values, messages and streams are written as bytes."""

ENTERS = 1
CHANGES = 2
LEAVES = 3


def whole_bytes(number):
    row = []
    while number >= 128:
        row.append(number % 128 + 128)
        number = number // 128
    row.append(number)
    return row


def value_bytes(value):
    return whole_bytes(2 * value if value >= 0 else -2 * value - 1)


def enters_bytes(n, thing):
    row = [ENTERS] + whole_bytes(n) + whole_bytes(thing.kind)
    for value in thing.state:
        row.extend(value_bytes(value))
    return row


def changes_bytes(n, told, thing):
    changed = 0
    bit = 1
    tail = []
    for old, new in zip(told.state, thing.state):
        if old != new:
            changed += bit
            tail.extend(value_bytes(new))
        bit = bit * 2
    # One byte even from 128 on: it isn't written as a whole number.
    return [CHANGES] + whole_bytes(n) + [changed] + tail


def leaves_bytes(n):
    return [LEAVES] + whole_bytes(n)


def stream_bytes(tick, messages):
    row = whole_bytes(tick) + whole_bytes(len(messages))
    for message in messages:
        row.extend(message)
    return row
