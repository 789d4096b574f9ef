"""The promises 1 to 5 in drawn worlds, and drawn lists of calls answered as the model answers them."""

import random
import unittest
from fractions import Fraction
from math import gcd

from meetingbodies.world import answers
from tests.helper import (
    AIM, BALL, BODY, BOX, DRIVER, DROP, FINE, FIXED, FREE, HUGE, MET, OPEN, ORDER, PLACES, RAY, RENUMBER, ROOM, SUMS, TICK,
    TOTALS, WOULD, ball, begin, box, draw_bodies, flatten, last, model_bodies, model_body, model_comes, model_order,
    model_reaches, model_tick, model_within, renumber, rows, run, stamp,
)

LOOK = [(TICK, 1), (PLACES,), (MET,)]


def watch(calls, ticks):
    """Behind the calls, and then behind each of so many ticks: places and velocities, and who met."""
    assert len(calls) + 1 + 3 * ticks <= 100
    found = run(*calls, (PLACES,), *LOOK * ticks)
    assert all(answer[0] == 0 for answer in found), found
    at = len(calls)
    behind = [(rows(found[at + 3 * k + 2], 4), rows(found[at + 3 * k + 3], 3)) for k in range(ticks)]
    return [(rows(found[at], 4), [])] + behind


def draw_worlds(seed, count, kinds=(FIXED, FREE, FREE, DRIVER), most=14):
    """Drawn worlds: crowded and roomy ones, with slow and fast bodies."""
    draw = random.Random(seed)
    for attempt in range(count):
        yield draw, *draw_bodies(
            draw, draw.randint(2, most), spread=draw.choice((8, 20, 40)), size=draw.choice((2, 8)),
            speed=draw.choice((2, 8, 40)), kinds=kinds,
        )


def draw_pull(draw):
    return draw.randint(-4, 4), draw.randint(-4, 4)


class Promise1(unittest.TestCase):
    """At no time of any part is a body within another."""

    def check_apart(self, bodies, ways):
        for i in range(len(bodies)):
            for j in range(i):
                self.assertFalse(model_comes(bodies[i], bodies[j], ways[i], ways[j]), (bodies, ways))

    def test_behind_each_tick(self):
        met = 0
        for draw, shapes, velocities in draw_worlds(11, 150):
            parts = draw.randint(2, 16)
            for places, pairs in watch(begin(shapes, velocities, parts, draw_pull(draw)), 8):
                met += len(pairs)
                bodies = [dict(model_body(shape), place=row[:2]) for shape, row in zip(shapes, places)]
                self.check_apart(bodies, [(0, 0)] * len(bodies))
        self.assertGreater(met, 1000)

    def test_while_a_part_lasts(self):
        met = 0
        for draw, shapes, velocities in draw_worlds(12, 150):
            seen = watch(begin(shapes, velocities, 1, draw_pull(draw)), 10)
            for (before, ignored), (behind, pairs) in zip(seen, seen[1:]):
                met += len(pairs)
                bodies = [dict(model_body(shape), place=row[:2]) for shape, row in zip(shapes, before)]
                ways = [(b[0] - a[0], b[1] - a[1]) for a, b in zip(before, behind)]
                self.check_apart(bodies, ways)
        self.assertGreater(met, 500)


def change_shape(shape, change_point, change_place):
    """The box or ball call, or the place and size of a room, in a changed world."""
    size = shape[3:5]
    if shape[0] != BALL:
        size = tuple(abs(length) for length in change_point(*size))
    return (shape[0], *change_place(*shape[1:3]), *size, *shape[5:])


def draw_ray(draw, shapes, spread=50, off=5):
    """A ray about so far from a drawn body's middle."""
    begin_at = (draw.randint(-spread, spread), draw.randint(-spread, spread))
    aim = draw.choice(shapes)[1:3]
    longer = draw.choice((1, 2, 3))
    way = [(a - b) * longer + draw.choice((0, draw.randint(-off, off))) for a, b in zip(aim, begin_at)]
    return (*begin_at, *[max(-10 ** 6, min(10 ** 6, v)) for v in way])


def timed(answer):
    """What order tells, but the time in one form, whichever fraction it's told by."""
    return [(number, stamp(time, FINE)) for number, *time in rows(answer, 4)]


class Promise2(unittest.TestCase):
    """What becomes of bodies doesn't hang on their numbers, nor on where and how the world lies."""

    def check_asked(self, draw, calls, changed, shapes, change_point, change_place):
        """Would, room, ray and order are answered alike in a world and a changed one; gives how much they told."""
        mover, ray = draw.randrange(len(shapes)), draw_ray(draw, shapes)
        way = (draw.randint(-30, 30), draw.randint(-30, 30))
        room = (ROOM, *ray[:2], draw.randint(1, 20), draw.randint(1, 20))
        found = run(*calls, (WOULD, mover, *way), room, (RAY, *ray), (ORDER, *ray))[-4:]
        changed_ray = (*change_place(*ray[:2]), *change_point(*ray[2:]))
        found_changed = run(
            *changed, (WOULD, mover, *change_point(*way)), change_shape(room, change_point, change_place),
            (RAY, *changed_ray), (ORDER, *changed_ray),
        )[-4:]
        self.assertEqual(found_changed[:3], found[:3])
        self.assertEqual(timed(found_changed[3]), timed(found[3]))
        # Only where x and y change places may another fraction be told of two alike ones.
        if change_point(1, 0)[0] != 0:
            self.assertEqual(found_changed[3], found[3])
        return sum(len(answer) - 1 for answer in found)

    def check_alike(self, seed, change_point, change_place):
        """A world changed so goes on changed so. change_point is for ways, sizes too; change_place for places."""
        met = told = 0
        for draw, shapes, velocities in draw_worlds(seed, 120):
            parts, pull = draw.randint(1, 4), draw_pull(draw)
            changed = [change_shape(shape, change_point, change_place) for shape in shapes]
            turned = [None if velocity is None else change_point(*velocity) for velocity in velocities]
            told += self.check_asked(
                draw, [*begin(shapes, velocities, parts, pull), (TICK, 2)],
                [*begin(changed, turned, parts, change_point(*pull)), (TICK, 2)], shapes, change_point, change_place,
            )
            expected = watch(begin(shapes, velocities, parts, pull), 10)
            found = watch(begin(changed, turned, parts, change_point(*pull)), 10)
            for (places, pairs), (changed_places, changed_pairs) in zip(expected, found):
                met += len(pairs)
                self.assertEqual(changed_places, [(*change_place(*row[:2]), *change_point(*row[2:])) for row in places])
                self.assertEqual(changed_pairs, pairs)
        self.assertGreater(met, 500)
        self.assertGreater(told, 300)

    def test_put_in_in_another_order(self):
        met = 0
        for draw, shapes, velocities in draw_worlds(21, 150):
            parts, pull = draw.randint(1, 4), draw_pull(draw)
            order = list(range(len(shapes)))
            draw.shuffle(order)
            expected = watch(begin(shapes, velocities, parts, pull), 10)
            found = watch(begin([shapes[k] for k in order], [velocities[k] for k in order], parts, pull), 10)
            for (places, pairs), (other_places, other_pairs) in zip(expected, found):
                met += len(pairs)
                self.assertEqual(other_places, [places[k] for k in order])
                renamed = [(part, *sorted((order[i], order[j]))) for part, i, j in other_pairs]
                self.assertEqual(sorted(renamed), sorted(pairs))
        self.assertGreater(met, 500)

    def test_renumbered(self):
        met = told = 0
        for draw, shapes, velocities in draw_worlds(20, 200):
            calls = begin(shapes, velocities, draw.randint(1, 4), draw_pull(draw)) + [(TICK, draw.randint(1, 3))]
            order = list(range(len(shapes)))
            draw.shuffle(order)
            ray = draw_ray(draw, shapes)
            mover, way = draw.randrange(len(shapes)), (draw.randint(-30, 30), draw.randint(-30, 30))
            asked = [(PLACES,), (ROOM, *ray[:2], 9, 9), (ORDER, *ray), (RAY, *ray), (SUMS,), (TOTALS,), (TICK, 1), (PLACES,), (MET,)]
            expected = run(*calls, (WOULD, order[mover], *way), *asked * 2)[len(calls):]
            found = run(*calls, renumber(*order), (WOULD, mover, *way), *asked * 2)[len(calls) + 1:]
            self.assertEqual(sorted(order[k] for k in found[0][1:]), expected[0][1:])
            for at in (1, 1 + len(asked)):
                places, room, hits, thousandths, sums_told, totals, ticked, behind, pairs = found[at:at + len(asked)]
                before = expected[at:at + len(asked)]
                self.assertEqual(rows(places, 4), [rows(before[0], 4)[k] for k in order])
                self.assertEqual(sorted(order[k] for k in room[1:]), before[1][1:])
                renamed = sorted((time, order[number]) for number, time in timed(hits))
                self.assertEqual([(number, time) for time, number in renamed], timed(before[2]))
                self.assertEqual(timed(hits), sorted(timed(hits), key=lambda hit: (hit[1], hit[0])))
                self.assertEqual(thousandths[2::2], before[3][2::2])
                self.assertEqual([sums_told, totals, ticked], before[4:7])
                self.assertEqual(rows(behind, 4), [rows(before[7], 4)[k] for k in order])
                renamed = [(part, *sorted((order[i], order[j]))) for part, i, j in rows(pairs, 3)]
                self.assertEqual(sorted(renamed), sorted(rows(before[8], 3)))
                met += len(renamed)
                told += len(hits) - 1
        self.assertGreater(met, 100)
        self.assertGreater(told, 1000)

    def test_mirrored(self):
        self.check_alike(22, lambda x, y: (-x, y), lambda x, y: (-x, y))
        self.check_alike(23, lambda x, y: (x, -y), lambda x, y: (x, -y))
        self.check_alike(24, lambda x, y: (y, x), lambda x, y: (y, x))

    def test_turned_by_a_quarter(self):
        self.check_alike(25, lambda x, y: (-y, x), lambda x, y: (-y, x))
        self.check_alike(26, lambda x, y: (-x, -y), lambda x, y: (-x, -y))
        self.check_alike(27, lambda x, y: (y, -x), lambda x, y: (y, -x))

    def test_shifted(self):
        self.check_alike(28, lambda x, y: (x, y), lambda x, y: (x + 999000, y - 999000))
        self.check_alike(29, lambda x, y: (x, y), lambda x, y: (x - 17, y + 4))


def sums(places):
    return sum(row[2] for row in places), sum(row[3] for row in places)


def squares(places):
    return sum(row[2] ** 2 + row[3] ** 2 for row in places)


class Promise3(unittest.TestCase):
    """Velocities' sums are kept where only pairs of hard free bodies meet; without drivers no squares are added."""

    def test_the_sums_are_kept(self):
        kept = 0
        for draw, shapes, velocities in draw_worlds(31, 500, kinds=(FREE,) * 9 + (DRIVER, FIXED), most=8):
            shapes = [shape[:-2] + (int(draw.randint(0, 9) > 0), 0) for shape in shapes]
            seen = watch(begin(shapes, velocities), 12)
            for (before, ignored), (behind, pairs) in zip(seen, seen[1:]):
                numbers = [number for pair in pairs for number in pair[1:]]
                # A body in two pairs makes them a group of three or more, which is no longer a pair.
                if len(numbers) == len(set(numbers)) and all(shapes[n][-3:-1] == (FREE, 1) for n in numbers):
                    kept += len(pairs)
                    self.assertEqual(sums(behind), sums(before))
                    self.assertEqual(squares(behind), squares(before))
        self.assertGreater(kept, 100)

    def test_the_squares_never_grow(self):
        met = 0
        for draw, shapes, velocities in draw_worlds(32, 400, kinds=(FREE, FREE, FIXED)):
            seen = watch(begin(shapes, velocities, 1), 12)
            for (before, ignored), (behind, pairs) in zip(seen, seen[1:]):
                met += len(pairs)
                self.assertLessEqual(squares(behind), squares(before))
                if not pairs:
                    self.assertEqual([row[2:] for row in behind], [row[2:] for row in before])
        self.assertGreater(met, 1000)


def edge_points(body):
    """Whole points on a body's edge, at which bodies are likely to touch."""
    x, y = body["place"]
    hx, hy = body["size"] * 2 if len(body["size"]) == 1 else body["size"]
    points = [(x + hx, y), (x - hx, y), (x, y + hy), (x, y - hy)]
    if len(body["size"]) == 2:
        points += [(x + sx * hx, y + sy * hy) for sx in (1, -1) for sy in (1, -1)]
    return points


def shared_points(bodies):
    """Those of the edge points that lie on two bodies or more."""
    points = [point for body in bodies for point in edge_points(body)]
    return [point for point in points if sum(model_reaches(body, (*point, 0, 0), 0) for body in bodies) > 1]


def draw_touching(draw, count):
    """Bodies, many of which touch one another."""
    shapes = [box(0, 0, 3, 4)]
    for attempt in range(count * 4):
        x, y = draw.choice(edge_points(model_body(draw.choice(shapes))))
        hx, hy = draw.randint(1, 6), draw.randint(1, 6)
        shape = draw.choice((
            box(x + draw.choice((-hx, 0, hx)), y + draw.choice((-hy, 0, hy)), hx, hy), ball(x + draw.choice((-hx, hx)), y, hx),
            ball(x, y + draw.choice((-hy, hy)), hy), ball(x + 3, y + 4, 5), ball(x - 4, y + 3, 5),
        ))
        if len(shapes) < count and not any(model_within(model_body(shape), model_body(s)) for s in shapes):
            shapes.append(shape)
    draw.shuffle(shapes)
    return shapes


def draw_ray_by(draw, point, beside):
    """A ray by a point: through it if beside is 0, else nearer by it the lesser beside and the longer its way."""
    while True:
        most = draw.choice((3, 1000, 900000))
        wx, wy = draw.randint(1, most), draw.choice((0, draw.randint(1, most), draw.randint(1, most)))
        if gcd(wx, wy) == 1:
            break
    # From the point to the ray's beginning: dx * wy - dy * wx is beside.
    dx = (beside * pow(wy, -1, wx)) % wx - wx
    dy = (dx * wy - beside) // wx
    sx, sy = draw.choice((1, -1)), draw.choice((1, -1))
    ray = [point[0] + sx * dx, point[1] + sy * dy, sx * wx, sy * wy]
    # Turned about the diagonal through the point, so that ways in y alone are drawn too.
    if draw.randint(0, 1):
        ray = [point[0] + sy * dy, point[1] + sx * dx, sy * wy, sx * wx]
    return ray


class Promise4(unittest.TestCase):
    """Told as first by a ray is what's first, exactly."""

    def check(self, shapes, *ray):
        """Order and ray as reckoned otherwise; gives the stamps of the times that are told."""
        found = run((OPEN, 1, 0, 0), *shapes, (ORDER, *ray), (RAY, *ray))[-2:]
        expected = model_order(model_bodies(shapes, [None] * len(shapes)), ray)
        self.assertEqual(rows(found[0], 4), expected, (shapes, ray))
        self.assertEqual(rows(found[1], 2), [(number, stamp(time, 1000)) for number, *time in expected], (shapes, ray))
        return [stamp(row[1:], FINE) for row in expected]

    def test_in_small_worlds(self):
        told = 0
        for draw, shapes, ignored in draw_worlds(41, 400):
            for attempt in range(10):
                told += len(self.check(shapes, *draw_ray(draw, shapes, draw.choice((10, 40)))))
        self.assertGreater(told, 2000)

    def test_where_bodies_touch(self):
        """Rays through the points at which bodies touch, or as near to these as whole numbers allow."""
        draw = random.Random(42)
        alike = near = 0
        for attempt in range(150):
            shapes = draw_touching(draw, 12)
            points = shared_points([model_body(shape) for shape in shapes])
            for again in range(30):
                point = draw.choice(points)
                stamps = self.check(shapes, *draw_ray_by(draw, point, draw.choice((0, 0, 1, -1, 2, -2))))
                steps = [b - a for a, b in zip(stamps, stamps[1:])]
                alike += steps.count(0)
                near += len([step for step in steps if 0 < step < FINE // 10 ** 11])
        self.assertGreater(alike, 100)
        self.assertGreater(near, 20)

    def test_in_great_worlds(self):
        told = 0
        draw = random.Random(43)
        for attempt in range(400):
            shapes, ignored = draw_bodies(draw, 20, spread=10 ** 6, size=10 ** 5)
            for again in range(3):
                told += len(self.check(shapes, *draw_ray(draw, shapes, 10 ** 6, 10 ** 5)))
        self.assertGreater(told, 500)

    def test_by_the_ways_themselves(self):
        """The bodies that a ray comes to from outside are those in which it comes to be, and just then."""
        told = 0
        little = Fraction(1, 10 ** 40)
        for draw, shapes, ignored in draw_worlds(44, 150):
            bodies = model_bodies(shapes, [None] * len(shapes))
            ray = draw_ray(draw, shapes)
            found = dict(rows(last((OPEN, 1, 0, 0), *shapes, (RAY, *ray)), 2))
            for number, body in enumerate(bodies):
                if not model_reaches(body, ray, 0):
                    self.assertEqual(number in found, model_reaches(body, ray, 1), (shapes, ray, number))
            for number, count in found.items():
                told += 1
                if count > 0:
                    self.assertFalse(model_reaches(bodies[number], ray, Fraction(count, 1000) - little))
                self.assertTrue(model_reaches(bodies[number], ray, Fraction(count + 1, 1000) - little))
        self.assertGreater(told, 100)


class Model:
    """All calls on the slow model."""

    limits = {
        OPEN: [(1, 16), (-100, 100), (-100, 100)],
        BOX: [(-10 ** 6, 10 ** 6)] * 2 + [(1, 10 ** 5)] * 2 + [(0, 2), (0, 1), (0, 1)],
        BALL: [(-10 ** 6, 10 ** 6)] * 2 + [(1, 10 ** 5), (0, 2), (0, 1), (0, 1)],
        AIM: [(0, 19), (-1000, 1000), (-1000, 1000)], TICK: [(1, 20)], BODY: [(0, 19)], PLACES: [], MET: [],
        WOULD: [(0, 19)] + [(-10 ** 6, 10 ** 6)] * 2, ROOM: [(-10 ** 6, 10 ** 6)] * 2 + [(1, 10 ** 5)] * 2,
        RAY: [(-10 ** 6, 10 ** 6)] * 4, DROP: [(0, 19)], RENUMBER: [(0, 20)] + [(0, 19)] * 30, SUMS: [], TOTALS: [],
        ORDER: [(-10 ** 6, 10 ** 6)] * 4,
    }

    def __init__(self):
        self.settings = None
        self.bodies = []
        self.met = []
        self.ticks = 0

    def refusals(self, call, numbers):
        """All refusals that are due."""
        if not all(least <= n <= greatest for n, (least, greatest) in zip(numbers, self.limits[call])):
            yield -1
            return
        if call == OPEN and self.settings:
            yield -5
        if call not in (OPEN, TOTALS) and not self.settings:
            yield -2
        if call in (AIM, BODY, WOULD, DROP) and numbers[0] >= len(self.bodies):
            yield -3
        if call == RENUMBER and set(enumerate(sorted(numbers[1:]))) != {(k, k) for k in range(len(self.bodies))}:
            yield -5
        if call in (BOX, BALL) and len(self.bodies) == 20:
            yield -4
        if call in (BOX, BALL) and any(model_within(model_body((call, *numbers)), body) for body in self.bodies):
            yield -6
        if call == AIM and numbers[0] < len(self.bodies) and self.bodies[numbers[0]]["kind"] == FIXED:
            yield -7
        if call == TICK and self.ticks + numbers[0] > 1000:
            yield -8

    def answer(self, call, numbers):
        refused = list(self.refusals(call, numbers))
        return [max(refused)] if refused else [0] + self.told(call, numbers)

    def told(self, call, numbers):
        if call == OPEN:
            self.settings = numbers
        elif call in (BOX, BALL):
            self.bodies.append(model_body((call, *numbers)))
            return [len(self.bodies) - 1]
        elif call == AIM:
            self.bodies[numbers[0]]["velocity"] = tuple(numbers[1:])
        elif call == TICK:
            for tick in range(numbers[0]):
                self.bodies, self.met = model_tick(self.bodies, self.settings[0], self.settings[1:])
            self.ticks += numbers[0]
            return [len(self.met)]
        elif call == BODY:
            body = self.bodies[numbers[0]]
            shape = [0, *body["size"]] if len(body["size"]) == 2 else [1, *body["size"], *body["size"]]
            return [body["kind"], body["hard"], body["heavy"], *shape, *body["place"], *body["velocity"]]
        elif call == PLACES:
            return [n for body in self.bodies for n in (*body["place"], *body["velocity"])]
        elif call == MET:
            return [n for pair in self.met for n in pair]
        else:
            return self.told_more(call, numbers)
        return []

    def told_more(self, call, numbers):
        """What the calls 8 to 15 tell."""
        if call == WOULD:
            mover = self.bodies[numbers[0]]
            others = [(k, body) for k, body in enumerate(self.bodies) if k != numbers[0]]
            return [k for k, body in others if model_comes(mover, body, numbers[1:], (0, 0))]
        if call == ROOM:
            shape = model_body(box(*numbers))
            return [k for k, body in enumerate(self.bodies) if model_within(shape, body)]
        if call == RAY:
            return [n for number, *time in model_order(self.bodies, numbers) for n in (number, stamp(time, 1000))]
        if call == ORDER:
            return [n for hit in model_order(self.bodies, numbers) for n in hit]
        if call == SUMS:
            velocities = [body["velocity"] for body in self.bodies if body["kind"] != FIXED]
            return [sum(v[0] for v in velocities), sum(v[1] for v in velocities), sum(v[0] ** 2 + v[1] ** 2 for v in velocities)]
        if call == TOTALS:
            return [*(self.settings or (0, 0, 0)), len(self.bodies), self.ticks]
        if call == DROP:
            self.bodies = self.bodies[:numbers[0]] + self.bodies[numbers[0] + 1:]
        else:
            self.bodies = [self.bodies[k] for k in numbers[1:]]
        self.met = []
        return []


CHOICES = (
    OPEN, BOX, BOX, BOX, BALL, BALL, BALL, AIM, AIM, AIM, TICK, TICK, BODY, PLACES, MET, MET, WOULD, ROOM, RAY, DROP, RENUMBER,
    SUMS, TOTALS, ORDER, ORDER,
)


def draw_numbering(draw, count):
    """A list for renumber where there are so many bodies, mostly one that isn't refused."""
    numbers = draw.sample(range(count), count)
    if draw.randint(0, 3) == 0:
        numbers += [draw.randint(0, 19) for k in range(draw.choice((1, 2, 30 - count)))]
    elif numbers and draw.randint(0, 3) == 0:
        numbers[draw.randrange(count)] = draw.choice((0, count - 1, count, 19, 20, -1, HUGE))
    elif numbers and draw.randint(0, 4) == 0:
        numbers.pop()
    return [len(numbers), *numbers]


def draw_call(draw, count):
    """A drawn call where there are so many bodies, now and then with a number out of its range."""
    call = draw.choice(CHOICES)
    place = [draw.randint(-40, 40), draw.randint(-40, 40)]
    size = [draw.randint(1, 12), draw.randint(1, 12)]
    way = [draw.randint(-100, 100), draw.choice((0, draw.randint(-100, 100)))]
    nature = [draw.choice((FIXED, FREE, FREE, DRIVER)), draw.randint(0, 1), draw.randint(0, 1)]
    number = [draw.choice((*range(count), *range(count), count, 19))]
    numbers = {
        OPEN: [draw.randint(1, 5), draw.randint(-5, 5), draw.randint(-5, 5)],
        BOX: place + size + nature, BALL: place + size[:1] + nature,
        AIM: number + [draw.randint(-25, 25), draw.randint(-25, 25)],
        TICK: [draw.choice((1, 1, 1, 2))], BODY: number, WOULD: number + way, ROOM: place + size, RAY: place + way,
        DROP: number, ORDER: place + way,
    }.get(call, [])
    if numbers and draw.randint(0, 14) == 0:
        numbers[draw.randrange(len(numbers))] = draw.choice((-HUGE, HUGE, -1, 0, 1, 2, 3, 20, 21, 101, 1001, -1000001))
    if call == RENUMBER:
        numbers = draw_numbering(draw, count)
    return (call, *numbers)


def draw_line(draw, length):
    """A drawn line of so many calls, with something open early."""
    calls = []
    count = 0
    for k in range(length):
        if k == min(2, length - 1):
            calls.append((OPEN, draw.randint(1, 6), 0, draw.randint(-3, 0)))
        else:
            calls.append(draw_call(draw, count))
        if calls[-1][0] in (BOX, BALL, DROP):
            count = last(*calls, (TOTALS,))[4]
    return calls


class DrawnCalls(unittest.TestCase):
    def test_as_the_model_answers(self):
        draw = random.Random(51)
        seen = {}
        for attempt in range(150):
            calls = draw_line(draw, draw.randint(1, 100))
            model = Model()
            for call, answer in zip(calls, run(*calls)):
                self.assertEqual(answer, model.answer(call[0], call[1:]), calls)
                seen[call[0], answer[0]] = seen.get((call[0], answer[0]), 0) + 1
        for call in range(16):
            self.assertGreater(seen[call, 0], 20)
        self.assertTrue({0, -1, -2, -3, -5, -6, -7} <= {first for call, first in seen}, seen)
        self.assertTrue({(RENUMBER, -1), (RENUMBER, -5), (DROP, -3), (WOULD, -3)} <= set(seen), seen)

    def test_refused_calls_might_as_well_not_be_there(self):
        draw = random.Random(52)
        for attempt in range(100):
            calls = draw_line(draw, 100)
            answered = list(zip(calls, run(*calls)))
            kept = [(call, answer) for call, answer in answered if answer[0] == 0]
            self.assertLess(len(kept), len(calls))
            self.assertEqual(run(*[call for call, answer in kept]), [answer for call, answer in kept])

    def test_asked_twice(self):
        draw = random.Random(53)
        for attempt in range(50):
            calls = flatten(draw_line(draw, 100))
            before = list(calls)
            self.assertEqual(answers(calls), answers(calls))
            self.assertEqual(calls, before)

    def test_calls_that_only_ask_change_nothing(self):
        draw = random.Random(54)
        asking = (BODY, PLACES, MET, WOULD, ROOM, RAY, SUMS, TOTALS, ORDER)
        for attempt in range(50):
            calls = draw_line(draw, 100)
            answered = list(zip(calls, run(*calls)))
            kept = [(call, answer) for call, answer in answered if call[0] not in asking]
            self.assertEqual(run(*[call for call, answer in kept]), [answer for call, answer in kept])


if __name__ == "__main__":
    unittest.main()
