"""Where a line meets a wall; both are four numbers: x and y of one end, x and y of the other."""


def cross(a, b):
    return a[0] * b[1] - a[1] * b[0]


def dot(a, b):
    return a[0] * b[0] + a[1] * b[1]


# The line's share is upper / turn, the wall's is part / turn; each must be from 0 to 1.
def crossing(upper, part, turn):
    if turn < 0:
        return crossing(-upper, -part, -turn)
    if 0 <= upper <= turn and 0 <= part <= turn:
        return (upper, turn)
    return None


def is_on(x, y, wall):
    along = (wall[2] - wall[0], wall[3] - wall[1])
    return (
        cross(along, (x - wall[0], y - wall[1])) == 0
        and min(wall[0], wall[2]) <= x <= max(wall[0], wall[2])
        and min(wall[1], wall[3]) <= y <= max(wall[1], wall[3])
    )


# Line and wall lie on one straight line, and the line isn't a point: the wall's ends
# are told by how far along the line they lie, in parts of its length squared.
def overlap(along, offset, wall_along):
    length = dot(along, along)
    start = dot(along, offset)
    end = start + dot(along, wall_along)
    if max(start, end) < 0 or min(start, end) > length:
        return None
    return (max(min(start, end), 0), length)


# The least fraction of the line at which it is on the wall, as its upper and lower
# number (the lower above 0, not in least terms), or None if it never is.
def meeting(line, wall):
    along = (line[2] - line[0], line[3] - line[1])
    wall_along = (wall[2] - wall[0], wall[3] - wall[1])
    offset = (wall[0] - line[0], wall[1] - line[1])
    turn = cross(along, wall_along)
    if turn != 0:
        return crossing(cross(offset, wall_along), cross(offset, along), turn)
    if along == (0, 0):
        return (0, 1) if is_on(line[0], line[1], wall) else None
    if cross(offset, along) != 0:
        return None
    return overlap(along, offset, wall_along)


def is_less(share, other):
    return share[0] * other[1] < other[0] * share[1]


# The number of the wall that the line meets first, and the fraction; None if it meets none.
# Of walls met at the same fraction the one found first stays: its number is the least.
def first_meeting(line, walls):
    first = None
    for i, wall in enumerate(walls):
        share = meeting(line, wall)
        if share is not None and (first is None or is_less(share, first[1])):
            first = (i, share)
    return first


def least_terms(share):
    divisor = share[1]
    rest = share[0]
    while rest != 0:
        smaller = divisor % rest
        divisor = rest
        rest = smaller
    return [share[0] // divisor, share[1] // divisor]
