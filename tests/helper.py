"""What the tests share: writing calls, reading answers, drawing worlds, and a slow model of the document.

The model is written from the document's words alone, with fractions, and draws nothing from the package.
"""

from fractions import Fraction
from math import isqrt

from meetingbodies.world import answers

OPEN, BOX, BALL, AIM, TICK, BODY, PLACES, MET, WOULD, ROOM, RAY, DROP, RENUMBER, SUMS, TOTALS, ORDER = range(16)
FIXED, FREE, DRIVER = range(3)
HUGE = 1000000000000000000


def split(flat):
    """Split what answers gives back into a list of answers."""
    found = []
    at = 0
    while at < len(flat):
        count = flat[at]
        assert count >= 1 and at + 1 + count <= len(flat), flat
        found.append(flat[at + 1:at + 1 + count])
        at += 1 + count
    return found


def flatten(calls):
    return [number for call in calls for number in call]


def run(*calls):
    """Answer these calls, each a tuple or list of numbers; give a list of answers, one for each call."""
    found = split(answers(flatten(calls)))
    assert len(found) == len(calls), (calls, found)
    return found


def last(*calls):
    return run(*calls)[-1]


def box(x, y, hx, hy, kind=FREE, hard=0, heavy=0):
    return (BOX, x, y, hx, hy, kind, hard, heavy)


def ball(x, y, r, kind=FREE, hard=0, heavy=0):
    return (BALL, x, y, r, kind, hard, heavy)


def world(*shapes_and_velocities, parts=1, pull=(0, 0)):
    """Calls that open a world and put in bodies: each a pair of its box or ball call and its velocity (or None)."""
    calls = [(OPEN, parts, pull[0], pull[1])]
    calls += [shape for shape, velocity in shapes_and_velocities]
    for number, (shape, velocity) in enumerate(shapes_and_velocities):
        if velocity is not None:
            calls.append((AIM, number, velocity[0], velocity[1]))
    return calls


def renumber(*numbers):
    return (RENUMBER, len(numbers), *numbers)


def full_world(kind=FREE):
    """20 bodies in a row, far from where ordinary ones are put."""
    return [(OPEN, 1, 0, 0)] + [ball(10 * k, -900000, 5, kind) for k in range(20)]


def rows(answer, width):
    """Split what stands behind an answer's 0 into tuples of this many numbers."""
    assert answer[0] == 0 and (len(answer) - 1) % width == 0, answer
    return [tuple(answer[at:at + width]) for at in range(1, len(answer), width)]


def after(calls, ticks=1):
    """Places and velocities, and who met, behind so many ticks."""
    found = run(*calls, (TICK, ticks), (PLACES,), (MET,))
    assert all(answer[0] == 0 for answer in found), found
    assert found[-3][1] == len(rows(found[-1], 3))
    return rows(found[-2], 4), rows(found[-1], 3)


# The model.

def least_square(pieces):
    """The least of a sum of squares over times 0 to 1; pieces: a list of (begin, end, [(place, way), ..])."""
    found = None
    for begin, end, terms in pieces:
        slope = sum(place * way for place, way in terms)
        length = sum(way * way for place, way in terms)
        time = begin if length == 0 else min(max(Fraction(-slope, length), begin), end)
        value = sum((place + way * time) ** 2 for place, way in terms)
        found = value if found is None else min(found, value)
    return found


def times_of(edges):
    """0, 1 and the times between at which some place + way * time is one of its limits, rising."""
    times = {Fraction(0), Fraction(1)}
    for place, way, limits in edges:
        if way != 0:
            times.update(Fraction(limit - place, way) for limit in limits)
    return sorted(time for time in times if 0 <= time <= 1)


def model_boxes(place, way, hx, hy):
    times = times_of([(place[0], way[0], (-hx, hx)), (place[1], way[1], (-hy, hy))])
    times += [(a + b) / 2 for a, b in zip(times, times[1:])]
    return any(abs(place[0] + way[0] * t) < hx and abs(place[1] + way[1] * t) < hy for t in times)


def least_to_box(place, way, hx, hy):
    """The square of the least distance from the box about 0 on a way."""
    times = times_of([(place[0], way[0], (-hx, hx)), (place[1], way[1], (-hy, hy))])
    pieces = []
    for begin, end in zip(times, times[1:]):
        terms = []
        for axis, half in ((0, hx), (1, hy)):
            middle = place[axis] + way[axis] * (begin + end) / 2
            if middle > half:
                terms.append((place[axis] - half, way[axis]))
            elif middle < -half:
                terms.append((place[axis] + half, way[axis]))
        pieces.append((begin, end, terms))
    return least_square(pieces)


def model_comes(one, other, one_way, other_way):
    """Whether two of the model's bodies come within one another."""
    place = [b - a for a, b in zip(one["place"], other["place"])]
    way = [b - a for a, b in zip(one_way, other_way)]
    if len(one["size"]) == 2 and len(other["size"]) == 2:
        return model_boxes(place, way, one["size"][0] + other["size"][0], one["size"][1] + other["size"][1])
    if len(one["size"]) == 1 and len(other["size"]) == 1:
        r = one["size"][0] + other["size"][0]
        return least_square([(0, 1, list(zip(place, way)))]) < r * r
    if len(one["size"]) == 1:
        return model_comes(other, one, other_way, one_way)
    return least_to_box(place, way, *one["size"]) < other["size"][0] ** 2


def model_rounds(bodies):
    """The pairs that meet, by rounds, and the numbers of those that stay."""
    stay = set()
    met = []
    while True:
        ways = [(0, 0) if i in stay or b["kind"] == FIXED else b["velocity"] for i, b in enumerate(bodies)]
        found = [
            (i, j) for i in range(len(bodies)) for j in range(i + 1, len(bodies))
            if model_comes(bodies[i], bodies[j], ways[i], ways[j])
        ]
        if not found:
            return met, stay
        met += found
        stay |= {number for pair in found for number in pair}


def model_blocked(one, other):
    found = [
        model_comes(one, other, *[tuple(v if k == axis else 0 for k, v in enumerate(b["velocity"])) for b in (one, other)])
        for axis in (0, 1)
    ]
    return found if any(found) else [True, True]


def model_group(number, bodies, pairs):
    group = {number}
    while True:
        more = {
            k for pair in pairs if group & set(pair) and all(bodies[m]["kind"] != FIXED for m in pair) for k in pair
        }
        if more <= group:
            return group
        group |= more


def model_speed(number, bodies, pairs, axis):
    """What becomes of a body's velocity in a direction in which these pairs are blocked."""
    own = bodies[number]["velocity"][axis]
    if bodies[number]["kind"] == FIXED or not any(number in pair for pair in pairs):
        return own
    group = model_group(number, bodies, pairs)
    if any(group & set(pair) and any(bodies[m]["kind"] == FIXED for m in pair) for pair in pairs):
        return -own if len(group) == 1 and bodies[number]["hard"] else 0
    drivers = [m for m in group if bodies[m]["kind"] == DRIVER]
    if len(drivers) == 1:
        return bodies[drivers[0]]["velocity"][axis]
    if len(group) == 2 and all(bodies[m]["hard"] for m in group):
        return bodies[(group - {number}).pop()]["velocity"][axis]
    return 0


def model_part(bodies):
    """The bodies behind a part, as new ones, and the pairs that met."""
    met, stay = model_rounds(bodies)
    blocked = {pair: model_blocked(bodies[pair[0]], bodies[pair[1]]) for pair in met}
    behind = []
    for number, body in enumerate(bodies):
        new = dict(body)
        new["velocity"] = tuple(
            model_speed(number, bodies, [pair for pair in met if blocked[pair][axis]], axis) for axis in (0, 1)
        )
        if number not in stay:
            new["place"] = tuple(p + v for p, v in zip(body["place"], body["velocity"]))
        behind.append(new)
    return behind, met


def model_tick(bodies, parts, pull):
    behind = [dict(body) for body in bodies]
    for body in behind:
        if body["kind"] == FREE and body["heavy"]:
            body["velocity"] = tuple(max(-1000, min(1000, v + g)) for v, g in zip(body["velocity"], pull))
    met = []
    for part in range(parts):
        behind, pairs = model_part(behind)
        met += [(part, i, j) for i, j in pairs]
    return behind, met


def model_body(call):
    """The model's body for a box call or a ball call."""
    kind, hard, heavy = call[-3:]
    return {
        "place": tuple(call[1:3]), "size": tuple(call[3:-3]), "velocity": (0, 0),
        "kind": kind, "hard": hard, "heavy": heavy,
    }


def model_bodies(shapes, velocities):
    bodies = [model_body(shape) for shape in shapes]
    for body, velocity in zip(bodies, velocities):
        if body["kind"] != FIXED and velocity is not None:
            body["velocity"] = tuple(velocity)
    return bodies


def model_within(one, other):
    return model_comes(one, other, (0, 0), (0, 0))


def model_box_time(place, way, size):
    """When a ray comes to a box, as (a, b, 0), or None."""
    spans = []
    for p, v, h in zip(place, way, size):
        if v > 0:
            spans.append((v, -h - p, Fraction(h - p, v)))
        elif v < 0:
            spans.append((-v, p - h, Fraction(h + p, -v)))
        elif not -h <= p <= h:
            return None
    if not spans:
        return None
    # Of equal ones max gives the first.
    a, b, ignored = max(spans, key=lambda span: Fraction(span[1], span[0]))
    time = Fraction(b, a)
    return (a, b, 0) if 0 <= time <= 1 and all(time <= end for ignored, ignored, end in spans) else None


def model_ball_time(place, way, r):
    """When a ray comes to a ball, as (a, b, d), or None."""
    a = sum(v * v for v in way)
    b = -sum(p * v for p, v in zip(place, way))
    c = sum(p * p for p in place) - r * r
    d = b * b - a * c
    return (a, b, d) if a != 0 and b >= 0 and c >= 0 and d >= 0 and b - a <= isqrt(d) else None


def model_time(body, ray):
    """When a ray, x, y, dx, dy, comes to one of the model's bodies."""
    place = [p - q for p, q in zip(ray[:2], body["place"])]
    if len(body["size"]) == 2:
        return model_box_time(place, ray[2:], body["size"])
    return model_ball_time(place, ray[2:], *body["size"])


def stamp(time, scale):
    """The greatest whole number that, divided by scale, is not later than the time a, b, d."""
    a, b, d = time
    root = isqrt(d * scale * scale)
    if root * root < d * scale * scale:
        root += 1
    return (b * scale - root) // a


# Two times that come from places and ways up to 10 ** 8 are one time, or their difference is greater than 10 ** -120.
FINE = 10 ** 150


def model_order(bodies, ray):
    """The numbers and times of all bodies that a ray comes to, in order."""
    times = {number: model_time(body, ray) for number, body in enumerate(bodies)}
    hits = [(stamp(time, FINE), number) for number, time in times.items() if time is not None]
    return [(number, *times[number]) for ignored, number in sorted(hits)]


def model_reaches(body, ray, end):
    """Whether a ray comes to be in a body, edges too, from the time 0 to the time end."""
    place = [p - q for p, q in zip(ray[:2], body["place"])]
    way = [v * Fraction(end) for v in ray[2:]]
    if len(body["size"]) == 2:
        return least_to_box(place, way, *body["size"]) == 0
    return least_square([(0, 1, list(zip(place, way)))]) <= body["size"][0] ** 2


# Drawing.

def draw_shape(draw, spread, size, kinds):
    x, y = draw.randint(-spread, spread), draw.randint(-spread, spread)
    nature = (draw.choice(kinds), draw.randint(0, 1), draw.randint(0, 1))
    if draw.randint(0, 1):
        return box(x, y, draw.randint(1, size), draw.randint(1, size), *nature)
    return ball(x, y, draw.randint(1, size), *nature)


def draw_bodies(draw, count, spread=40, size=8, speed=20, kinds=(FIXED, FREE, FREE, DRIVER)):
    """Box and ball calls of bodies of which none is within another, and a velocity for each (None for fixed ones)."""
    shapes = []
    for attempt in range(count * 3):
        shape = draw_shape(draw, spread, size, kinds)
        if len(shapes) < count and not any(model_within(model_body(shape), model_body(s)) for s in shapes):
            shapes.append(shape)
    velocities = [
        None if shape[-3] == FIXED else (draw.randint(-speed, speed), draw.randint(-speed, speed)) for shape in shapes
    ]
    return shapes, velocities


def begin(shapes, velocities, parts=1, pull=(0, 0)):
    return world(*zip(shapes, velocities), parts=parts, pull=pull)
