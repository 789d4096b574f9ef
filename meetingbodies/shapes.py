"""When two shapes come within one another, told exactly by whole numbers.

Two shapes come within one another when the one's middle, seen from the other's middle, comes into an area about 0:
the area of both shapes added. Seen so, the one goes a line: a tuple of the x and y where it begins and of its way in
x and in y. The areas are open: their edges don't belong to them, for touching is not being within.
"""


def crosses_box(line, hx, hy):
    """Tell whether the line comes into the open box of this half width and half height about 0."""
    x = line[0]
    y = line[1]
    wx = line[2]
    wy = line[3]
    if max(x, x + wx) <= -hx or min(x, x + wx) >= hx:
        return False
    if max(y, y + wy) <= -hy or min(y, y + wy) >= hy:
        return False
    if wx == 0 and wy == 0:
        return True
    # Two convex figures that x and y don't part can only be parted along the line itself.
    return abs(x * wy - y * wx) < hx * abs(wy) + hy * abs(wx)


def crosses_ball(line, r):
    """Tell whether the line comes into the open ball of this radius about 0."""
    x = line[0]
    y = line[1]
    wx = line[2]
    wy = line[3]
    over = x * x + y * y - r * r
    nearing = -(x * wx + y * wy)
    length = wx * wx + wy * wy
    if nearing <= 0:
        return over < 0
    if nearing >= length:
        return over - 2 * nearing + length < 0
    # The least distance lies at the time nearing / length; multiplying by length keeps to whole numbers.
    return over * length < nearing * nearing


def seen_from(line, x, y):
    """Give the line as it is seen from another point."""
    return (line[0] - x, line[1] - y, line[2], line[3])


def crosses_rounded(line, hx, hy, r):
    """Tell whether the line comes nearer than r to the box of this half width and half height about 0."""
    if not crosses_box(line, hx + r, hy + r):
        return False
    if crosses_box(line, hx + r, hy) or crosses_box(line, hx, hy + r):
        return True
    corners = ((-hx, -hy), (-hx, hy), (hx, -hy), (hx, hy))
    return any([crosses_ball(seen_from(line, cx, cy), r) for cx, cy in corners])


def comes_within(one, other, one_way, other_way):
    """Tell whether two bodies come within one another while each goes its way, from where they are."""
    line = (
        other.place[0] - one.place[0],
        other.place[1] - one.place[1],
        other_way[0] - one_way[0],
        other_way[1] - one_way[1],
    )
    if one.ball == 1 and other.ball == 1:
        return crosses_ball(line, one.half[0] + other.half[0])
    if one.ball == 1:
        return crosses_rounded(line, other.half[0], other.half[1], one.half[0])
    if other.ball == 1:
        return crosses_rounded(line, one.half[0], one.half[1], other.half[0])
    return crosses_box(line, one.half[0] + other.half[0], one.half[1] + other.half[1])
