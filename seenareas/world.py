"""The calls on a world, read from one list and answered in one list."""

from seenareas.edits import EDITS
from seenareas.mirrors import MIRRORS
from seenareas.model import World
from seenareas.queries import QUERIES
from seenareas.ticks import TICKS

# How many whole numbers each call has, by its number.
SIZES = (2, 1, 3, 3, 4, 1, 2, 6, 1, 0, 1, 1, 1, 1, 3, 4, 0, 0, 0, 1, 0)

# The calls that have a row behind their whole numbers.
WITH_ROW = (0, 16)


def perform(world, call, numbers):
    if call in EDITS:
        return EDITS[call](world, numbers)
    if call in TICKS:
        return TICKS[call](world, numbers)
    if call in MIRRORS:
        return MIRRORS[call](world, numbers)
    return QUERIES[call](world, numbers)


def answers(calls):
    world = World()
    told = []
    at = 0
    while at < len(calls):
        call = calls[at]
        end = at + 1 + SIZES[call]
        numbers = calls[at + 1:end]
        if call in WITH_ROW:
            start = end + 1
            end = start + calls[end]
            numbers = numbers + calls[start:end]
        answer = perform(world, call, numbers)
        told.append(len(answer))
        told.extend(answer)
        at = end
    return told
