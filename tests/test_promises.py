"""The promises 1, 2, 3 and 5 in drawn worlds, and drawn lists of calls answered as the model answers them."""

import random
import unittest

from meetingbodies.world import answers
from tests.helper import (
    AIM, BALL, BODY, BOX, DRIVER, FIXED, FREE, HUGE, MET, OPEN, PLACES, TICK, begin, draw_bodies, flatten, model_bodies,
    model_body, model_comes, model_tick, model_within, rows, run,
)

LOOK = [(TICK, 1), (PLACES,), (MET,)]


def watch(calls, ticks):
    """Behind the calls, and then behind each of so many ticks: places and velocities, and who met."""
    assert len(calls) + 1 + 3 * ticks <= 100
    found = run(*calls, (PLACES,), *LOOK * ticks)
    assert all(answer[0] == 0 for answer in found), found
    at = len(calls)
    behind = [(rows(found[at + 3 * k + 2], 4), rows(found[at + 3 * k + 3], 3)) for k in range(ticks)]
    return [(rows(found[at], 4), [])] + behind


def draw_worlds(seed, count, kinds=(FIXED, FREE, FREE, DRIVER), most=14):
    """Drawn worlds: crowded and roomy ones, with slow and fast bodies."""
    draw = random.Random(seed)
    for attempt in range(count):
        yield draw, *draw_bodies(
            draw, draw.randint(2, most), spread=draw.choice((8, 20, 40)), size=draw.choice((2, 8)),
            speed=draw.choice((2, 8, 40)), kinds=kinds,
        )


def draw_pull(draw):
    return draw.randint(-4, 4), draw.randint(-4, 4)


class Promise1(unittest.TestCase):
    """At no time of any part is a body within another."""

    def check_apart(self, bodies, ways):
        for i in range(len(bodies)):
            for j in range(i):
                self.assertFalse(model_comes(bodies[i], bodies[j], ways[i], ways[j]), (bodies, ways))

    def test_behind_each_tick(self):
        met = 0
        for draw, shapes, velocities in draw_worlds(11, 150):
            parts = draw.randint(2, 16)
            for places, pairs in watch(begin(shapes, velocities, parts, draw_pull(draw)), 8):
                met += len(pairs)
                bodies = [dict(model_body(shape), place=row[:2]) for shape, row in zip(shapes, places)]
                self.check_apart(bodies, [(0, 0)] * len(bodies))
        self.assertGreater(met, 1000)

    def test_while_a_part_lasts(self):
        met = 0
        for draw, shapes, velocities in draw_worlds(12, 150):
            seen = watch(begin(shapes, velocities, 1, draw_pull(draw)), 10)
            for (before, ignored), (behind, pairs) in zip(seen, seen[1:]):
                met += len(pairs)
                bodies = [dict(model_body(shape), place=row[:2]) for shape, row in zip(shapes, before)]
                ways = [(b[0] - a[0], b[1] - a[1]) for a, b in zip(before, behind)]
                self.check_apart(bodies, ways)
        self.assertGreater(met, 500)


class Promise2(unittest.TestCase):
    """What becomes of bodies doesn't hang on their numbers, nor on where and how the world lies."""

    def check_alike(self, seed, change_point, change_place):
        """A world changed so goes on changed so. change_point is for ways, sizes too; change_place for places."""
        met = 0
        for draw, shapes, velocities in draw_worlds(seed, 120):
            parts, pull = draw.randint(1, 4), draw_pull(draw)
            changed = []
            for shape in shapes:
                size = shape[3:-3]
                if len(size) == 2:
                    size = tuple(abs(length) for length in change_point(*size))
                changed.append((shape[0], *change_place(*shape[1:3]), *size, *shape[-3:]))
            turned = [None if velocity is None else change_point(*velocity) for velocity in velocities]
            expected = watch(begin(shapes, velocities, parts, pull), 10)
            found = watch(begin(changed, turned, parts, change_point(*pull)), 10)
            for (places, pairs), (changed_places, changed_pairs) in zip(expected, found):
                met += len(pairs)
                self.assertEqual(changed_places, [(*change_place(*row[:2]), *change_point(*row[2:])) for row in places])
                self.assertEqual(changed_pairs, pairs)
        self.assertGreater(met, 500)

    def test_put_in_in_another_order(self):
        met = 0
        for draw, shapes, velocities in draw_worlds(21, 150):
            parts, pull = draw.randint(1, 4), draw_pull(draw)
            order = list(range(len(shapes)))
            draw.shuffle(order)
            expected = watch(begin(shapes, velocities, parts, pull), 10)
            found = watch(begin([shapes[k] for k in order], [velocities[k] for k in order], parts, pull), 10)
            for (places, pairs), (other_places, other_pairs) in zip(expected, found):
                met += len(pairs)
                self.assertEqual(other_places, [places[k] for k in order])
                renamed = [(part, *sorted((order[i], order[j]))) for part, i, j in other_pairs]
                self.assertEqual(sorted(renamed), sorted(pairs))
        self.assertGreater(met, 500)

    def test_mirrored(self):
        self.check_alike(22, lambda x, y: (-x, y), lambda x, y: (-x, y))
        self.check_alike(23, lambda x, y: (x, -y), lambda x, y: (x, -y))
        self.check_alike(24, lambda x, y: (y, x), lambda x, y: (y, x))

    def test_turned_by_a_quarter(self):
        self.check_alike(25, lambda x, y: (-y, x), lambda x, y: (-y, x))
        self.check_alike(26, lambda x, y: (-x, -y), lambda x, y: (-x, -y))
        self.check_alike(27, lambda x, y: (y, -x), lambda x, y: (y, -x))

    def test_shifted(self):
        self.check_alike(28, lambda x, y: (x, y), lambda x, y: (x + 999000, y - 999000))
        self.check_alike(29, lambda x, y: (x, y), lambda x, y: (x - 17, y + 4))


def sums(places):
    return sum(row[2] for row in places), sum(row[3] for row in places)


def squares(places):
    return sum(row[2] ** 2 + row[3] ** 2 for row in places)


class Promise3(unittest.TestCase):
    """Velocities' sums are kept where only pairs of hard free bodies meet; without drivers no squares are added."""

    def test_the_sums_are_kept(self):
        kept = 0
        for draw, shapes, velocities in draw_worlds(31, 500, kinds=(FREE,) * 9 + (DRIVER, FIXED), most=8):
            shapes = [shape[:-2] + (int(draw.randint(0, 9) > 0), 0) for shape in shapes]
            seen = watch(begin(shapes, velocities), 12)
            for (before, ignored), (behind, pairs) in zip(seen, seen[1:]):
                numbers = [number for pair in pairs for number in pair[1:]]
                # A body in two pairs makes them a group of three or more, which is no longer a pair.
                if len(numbers) == len(set(numbers)) and all(shapes[n][-3:-1] == (FREE, 1) for n in numbers):
                    kept += len(pairs)
                    self.assertEqual(sums(behind), sums(before))
                    self.assertEqual(squares(behind), squares(before))
        self.assertGreater(kept, 100)

    def test_the_squares_never_grow(self):
        met = 0
        for draw, shapes, velocities in draw_worlds(32, 400, kinds=(FREE, FREE, FIXED)):
            seen = watch(begin(shapes, velocities, 1), 12)
            for (before, ignored), (behind, pairs) in zip(seen, seen[1:]):
                met += len(pairs)
                self.assertLessEqual(squares(behind), squares(before))
                if not pairs:
                    self.assertEqual([row[2:] for row in behind], [row[2:] for row in before])
        self.assertGreater(met, 1000)


class Model:
    """The calls 0 to 7 on the slow model."""

    limits = {
        OPEN: [(1, 16), (-100, 100), (-100, 100)],
        BOX: [(-10 ** 6, 10 ** 6)] * 2 + [(1, 10 ** 5)] * 2 + [(0, 2), (0, 1), (0, 1)],
        BALL: [(-10 ** 6, 10 ** 6)] * 2 + [(1, 10 ** 5), (0, 2), (0, 1), (0, 1)],
        AIM: [(0, 19), (-1000, 1000), (-1000, 1000)], TICK: [(1, 20)], BODY: [(0, 19)], PLACES: [], MET: [],
    }

    def __init__(self):
        self.settings = None
        self.bodies = []
        self.met = []
        self.ticks = 0

    def refusals(self, call, numbers):
        """All refusals that are due."""
        if not all(least <= n <= greatest for n, (least, greatest) in zip(numbers, self.limits[call])):
            yield -1
            return
        if call == OPEN and self.settings:
            yield -5
        if call != OPEN and not self.settings:
            yield -2
        if call in (AIM, BODY) and numbers[0] >= len(self.bodies):
            yield -3
        if call in (BOX, BALL) and len(self.bodies) == 20:
            yield -4
        if call in (BOX, BALL) and any(model_within(model_body((call, *numbers)), body) for body in self.bodies):
            yield -6
        if call == AIM and numbers[0] < len(self.bodies) and self.bodies[numbers[0]]["kind"] == FIXED:
            yield -7
        if call == TICK and self.ticks + numbers[0] > 1000:
            yield -8

    def answer(self, call, numbers):
        refused = list(self.refusals(call, numbers))
        return [max(refused)] if refused else [0] + self.told(call, numbers)

    def told(self, call, numbers):
        if call == OPEN:
            self.settings = numbers
        elif call in (BOX, BALL):
            self.bodies.append(model_body((call, *numbers)))
            return [len(self.bodies) - 1]
        elif call == AIM:
            self.bodies[numbers[0]]["velocity"] = tuple(numbers[1:])
        elif call == TICK:
            for tick in range(numbers[0]):
                self.bodies, self.met = model_tick(self.bodies, self.settings[0], self.settings[1:])
            self.ticks += numbers[0]
            return [len(self.met)]
        elif call == BODY:
            body = self.bodies[numbers[0]]
            shape = [0, *body["size"]] if len(body["size"]) == 2 else [1, *body["size"], *body["size"]]
            return [body["kind"], body["hard"], body["heavy"], *shape, *body["place"], *body["velocity"]]
        elif call == PLACES:
            return [n for body in self.bodies for n in (*body["place"], *body["velocity"])]
        elif call == MET:
            return [n for pair in self.met for n in pair]
        return []


def draw_call(draw):
    """A drawn call, now and then with a number out of its range."""
    call = draw.choice((OPEN, BOX, BOX, BALL, BALL, AIM, AIM, AIM, TICK, TICK, BODY, PLACES, MET, MET))
    numbers = {
        OPEN: [draw.randint(1, 5), draw.randint(-5, 5), draw.randint(-5, 5)],
        BOX: [draw.randint(-40, 40), draw.randint(-40, 40), draw.randint(1, 12), draw.randint(1, 12)],
        BALL: [draw.randint(-40, 40), draw.randint(-40, 40), draw.randint(1, 12)],
        AIM: [draw.choice((0, 1, 2, 3, 4, 5, 6, 19)), draw.randint(-25, 25), draw.randint(-25, 25)],
        TICK: [draw.choice((1, 1, 1, 2))], BODY: [draw.choice((0, 1, 2, 3, 4, 5, 6, 19))], PLACES: [], MET: [],
    }[call]
    if call in (BOX, BALL):
        numbers += [draw.choice((FIXED, FREE, FREE, DRIVER)), draw.randint(0, 1), draw.randint(0, 1)]
    if numbers and draw.randint(0, 14) == 0:
        numbers[draw.randrange(len(numbers))] = draw.choice((-HUGE, HUGE, -1, 0, 1, 2, 3, 20, 21, 101, 1001, -1000001))
    return (call, *numbers)


class DrawnCalls(unittest.TestCase):
    def test_as_the_model_answers(self):
        draw = random.Random(51)
        seen = {}
        for attempt in range(150):
            calls = [draw_call(draw) for k in range(draw.randint(0, 3))] + [(OPEN, draw.randint(1, 6), 0, draw.randint(-3, 0))]
            calls += [draw_call(draw) for k in range(draw.randint(1, 90))]
            model = Model()
            found = run(*calls)
            for call, answer in zip(calls, found):
                self.assertEqual(answer, model.answer(call[0], call[1:]), calls)
                seen[answer[0]] = seen.get(answer[0], 0) + 1
        self.assertTrue({0, -1, -2, -3, -5, -6, -7} <= set(seen), seen)

    def test_refused_calls_might_as_well_not_be_there(self):
        draw = random.Random(52)
        for attempt in range(300):
            calls = [(OPEN, 2, 0, -1)] + [draw_call(draw) for k in range(99)]
            answered = list(zip(calls, run(*calls)))
            kept = [(call, answer) for call, answer in answered if answer[0] == 0]
            self.assertLess(len(kept), len(calls))
            self.assertEqual(run(*[call for call, answer in kept]), [answer for call, answer in kept])

    def test_asked_twice(self):
        draw = random.Random(53)
        for attempt in range(50):
            calls = flatten([(OPEN, 2, 0, -1)] + [draw_call(draw) for k in range(99)])
            before = list(calls)
            self.assertEqual(answers(calls), answers(calls))
            self.assertEqual(calls, before)


if __name__ == "__main__":
    unittest.main()
