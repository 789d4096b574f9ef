"""Rays: when one comes to a body, and which of two times is later, told exactly by whole numbers.

A time is a tuple (a, b, d) that stands for (b - the root of d) / a, with a above 0 and d not below it. As with shapes,
a line is a tuple of the x and y where it begins and of its way in x and in y.
"""

from meetingbodies.shapes import seen_from

END = (1, 1, 0)


def sign_of(number):
    """Give 1 for a number above 0, -1 for one below, else 0."""
    if number > 0:
        return 1
    if number < 0:
        return -1
    return 0


def sign_with_root(whole, square):
    """Give the sign of a whole number plus the root of another one, which isn't below 0."""
    if whole >= 0:
        return sign_of(whole + square)
    return sign_of(square - whole * whole)


def compare(one, other):
    """Give 1 if the first time is later than the second, -1 if it's earlier, 0 if they are one time."""
    # Multiplied by both a, the times differ by ahead + the root of plus - the root of minus.
    ahead = one[1] * other[0] - other[1] * one[0]
    plus = other[2] * one[0] * one[0]
    minus = one[2] * other[0] * other[0]
    if ahead * (plus - minus) >= 0:
        return sign_of(ahead + plus - minus)
    # Both parts draw contrary ways; the longer one wins, and their squares tell which that is.
    return sign_of(ahead) * sign_with_root(ahead * ahead - plus - minus, 4 * plus * minus)


def is_later(one, other):
    """Tell whether the first time is later than the second."""
    return compare(one, other) > 0


def later_of(one, other):
    """Give the later time, the first one if they are one time."""
    return other if is_later(other, one) else one


def time_to_box(line, half):
    """Give the time at which the line comes to the box of this half width and half height about 0, else None."""
    begins = []
    ends = []
    for axis in (0, 1):
        way = line[axis + 2]
        if way == 0 and abs(line[axis]) > half[axis]:
            return None
        if way != 0:
            # Told as if the way went up; one that goes down is mirrored.
            place = line[axis] if way > 0 else -line[axis]
            begins.append((abs(way), -half[axis] - place, 0))
            ends.append((abs(way), half[axis] - place, 0))
    if not begins:
        return None
    time = later_of(begins[0], begins[-1])
    if time[1] < 0 or is_later(time, END) or any([is_later(time, end) for end in ends]):
        return None
    return time


def time_to_ball(line, r):
    """Give the time at which the line comes to the ball of this radius about 0, else None."""
    a = line[2] * line[2] + line[3] * line[3]
    b = -(line[0] * line[2] + line[1] * line[3])
    c = line[0] * line[0] + line[1] * line[1] - r * r
    d = b * b - a * c
    if a == 0 or b < 0 or c < 0 or d < 0 or is_later((a, b, d), END):
        return None
    return (a, b, d)


def time_to_body(line, body):
    """Give the time at which the line comes to the body, else None."""
    seen = seen_from(line, body.place[0], body.place[1])
    if body.ball == 1:
        return time_to_ball(seen, body.half[0])
    return time_to_box(seen, body.half)


def find_hits(bodies, line):
    """Give number and time of each body that the line comes to, the earliest first, of one time the least number."""
    hits = []
    for number, body in enumerate(bodies):
        time = time_to_body(line, body)
        if time is not None:
            ahead = [hit for hit in hits if not is_later(hit[1], time)]
            hits.insert(len(ahead), (number, time))
    return hits


def thousandths_of(time):
    """Give the greatest whole number of thousandths that is not later than a time from 0 to 1."""
    least = 0
    most = 1000
    while least < most:
        middle = (least + most + 1) // 2
        if is_later((1000, middle, 0), time):
            most = middle - 1
        else:
            least = middle
    return least
