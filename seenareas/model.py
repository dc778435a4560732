"""What a world holds, and the numbers by which a call is refused."""

MISSING = -1
WRONG = -2
TAKEN = -3
FULL = -4
ENDED = -5
UNREADABLE = -6
OVERTAKEN = -7
UNFITTING = -8

KINDS = 8
STATE_SIZE = 8


# A thing is never changed: when it moves, another one is put in its place.
# So what players saw and were told may be kept as the thing itself.
class Thing:
    def __init__(self, kind, state):
        self.kind = kind
        self.state = state


# alone, seen and told are dicts from a thing's number to the thing as it was then;
# waiting is one from a thing's number to the tick since which it waits.
class Player:
    def __init__(self, own, team, inner, outer, budget):
        self.own = own
        self.team = team
        self.inner = inner
        self.outer = outer
        self.budget = budget
        self.alone = {}
        self.seen = {}
        self.told = {}
        self.waiting = {}
        self.sent = []


# things is a dict from a thing's number to the thing as the streams told it.
class Mirror:
    def __init__(self, tick, things):
        self.tick = tick
        self.things = things


class World:
    def __init__(self):
        self.tick = 0
        self.things = {}
        self.walls = []
        self.ranks = [0] * KINDS
        self.players = {}
        self.mirror = Mirror(0, {})
