"""The calls would, room, sums and totals."""

import random
import unittest

from tests.helper import (
    AIM, DRIVER, DROP, FIXED, FREE, MET, OPEN, PLACES, ROOM, SUMS, TICK, TOTALS, WOULD, ball, begin, box, draw_bodies, last,
    model_bodies, model_body, model_comes, model_within, renumber, run, world,
)


def put(*shapes):
    return [(OPEN, 1, 0, 0), *shapes]


class Would(unittest.TestCase):
    def would(self, shapes, number, dx, dy):
        found = last(*put(*shapes), (WOULD, number, dx, dy))
        self.assertEqual(found[0], 0)
        return found[1:]

    def test_a_way_of_0_and_0(self):
        shapes = [box(0, 0, 5, 5), box(10, 0, 5, 5), ball(0, 10, 5), ball(-10, 0, 5, FIXED)]
        for number in range(4):
            self.assertEqual(self.would(shapes, number, 0, 0), [])

    def test_alone(self):
        self.assertEqual(self.would([ball(0, 0, 5)], 0, 1000000, -1000000), [])

    def test_touching_is_not_within(self):
        one, other = box(0, 0, 5, 5), ball(0, 0, 5)
        for x, y in ((20, 0), (-20, 0), (0, 20), (0, -20)):
            way = (x // 2, y // 2)
            further = (way[0] + (x > 0) - (x < 0), way[1] + (y > 0) - (y < 0))
            for mover in (one, other):
                for target in (box(x, y, 5, 5), ball(x, y, 5)):
                    with self.subTest(mover=mover, target=target):
                        self.assertEqual(self.would([mover, target], 0, *way), [])
                        self.assertEqual(self.would([mover, target], 0, *further), [1])
                        self.assertEqual(self.would([target, mover], 1, *further), [0])

    def test_sliding_along_touches_only(self):
        for target in (box(30, 10, 9, 5), box(30, -10, 9, 5), ball(30, 10, 5), ball(30, -10, 5)):
            for mover in (box(0, 0, 5, 5), ball(0, 0, 5)):
                self.assertEqual(self.would([mover, target], 0, 100, 0), [])
                nearer = (*target[:2], target[2] - (1 if target[2] > 0 else -1), *target[3:])
                self.assertEqual(self.would([mover, nearer], 0, 100, 0), [1])

    def test_it_leaves_one_that_it_touches(self):
        shapes = [box(0, 0, 5, 5), box(10, 0, 5, 5)]
        self.assertEqual(self.would(shapes, 0, -1000, 0), [])
        self.assertEqual(self.would(shapes, 0, 0, 1000), [])
        self.assertEqual(self.would(shapes, 0, 1, 1000), [1])
        self.assertEqual(self.would(shapes, 0, -1, 1000), [])

    def test_through_several_however_thin(self):
        shapes = [
            ball(900000, 0, 1, FIXED), box(0, 0, 1, 1), box(500000, 1, 1, 1, DRIVER), box(500000, 2000, 1, 1), ball(-9, 0, 1),
            box(7, -1, 1, 1), ball(2, 0, 1), box(1000000, 0, 1, 1),
        ]
        self.assertEqual(self.would(shapes, 1, 999999, 0), [0, 2, 5, 6, 7])
        self.assertEqual(self.would(shapes, 1, 999998, 0), [0, 2, 5, 6])
        self.assertEqual(self.would(shapes, 1, -7, 0), [])
        self.assertEqual(self.would(shapes, 1, -8, 0), [4])

    def test_at_a_fraction_of_the_way(self):
        # Beginning and end are far from it.
        self.assertEqual(self.would([ball(-999999, -999999, 1), ball(0, 1, 1)], 0, 1000000, 1000000), [1])
        self.assertEqual(self.would([ball(-500000, -500000, 1), ball(0, 2, 1)], 0, 1000000, 1000000), [1])
        self.assertEqual(self.would([ball(-500000, -500000, 1), ball(0, 3, 1)], 0, 1000000, 1000000), [])

    def test_bodies_of_every_kind(self):
        for mover in (FIXED, FREE, DRIVER):
            for target in (FIXED, FREE, DRIVER):
                for nature in ((0, 0), (0, 1), (1, 0), (1, 1)):
                    shapes = [ball(0, 0, 5, target, *nature), box(20, 0, 5, 5, mover, *nature)]
                    self.assertEqual(self.would(shapes, 1, -20, 0), [0])
                    self.assertEqual(self.would(shapes, 0, 20, 0), [1])

    def test_it_alone_moves(self):
        calls = world((ball(0, 0, 5), (10, 0)), (ball(30, 0, 5), (-1000, 0)), (ball(0, 30, 5), (0, -1000)))
        self.assertEqual(last(*calls, (WOULD, 0, 5, 0)), [0])
        self.assertEqual(last(*calls, (WOULD, 0, 21, 0)), [0, 1])

    def test_from_where_it_is_now(self):
        calls = world((ball(0, 0, 5), (10, 0)), (ball(40, 0, 5, FIXED), None), parts=2)
        self.assertEqual(last(*calls, (WOULD, 0, 11, 0)), [0])
        self.assertEqual(last(*calls, (TICK, 1), (WOULD, 0, 11, 0)), [0, 1])
        self.assertEqual(last(*calls, (TICK, 1), (WOULD, 0, 10, 0)), [0])

    def test_it_changes_nothing(self):
        calls = world((ball(0, 0, 5), (9, 0)), (ball(12, 0, 5), (-3, 0)))
        look = [(TICK, 1), (PLACES,), (MET,)]
        self.assertEqual(run(*calls, (WOULD, 0, 20, 0), (WOULD, 1, -9, 9), *look)[-3:], run(*calls, *look)[-3:])

    def test_drawn_as_the_model_says(self):
        draw = random.Random(81)
        told = 0
        for attempt in range(300):
            shapes, ignored = draw_bodies(draw, draw.randint(1, 14), spread=draw.choice((10, 30)))
            bodies = model_bodies(shapes, [None] * len(shapes))
            for number, body in enumerate(bodies):
                way = (draw.randint(-30, 30), draw.randint(-30, 30))
                expected = [
                    k for k, other in enumerate(bodies) if k != number and model_comes(body, other, way, (0, 0))
                ]
                self.assertEqual(self.would(shapes, number, *way), expected, (shapes, number, way))
                told += len(expected)
        self.assertGreater(told, 1000)


class Room(unittest.TestCase):
    def room(self, shapes, x, y, hx, hy):
        found = last(*put(*shapes), (ROOM, x, y, hx, hy))
        self.assertEqual(found[0], 0)
        return found[1:]

    def test_without_bodies(self):
        self.assertEqual(self.room([], 0, 0, 100000, 100000), [])

    def test_touching_edges_alone_and_one_less(self):
        for shape, x, y in (
            (box(0, 0, 3, 5), 7, 0), (box(0, 0, 3, 5), 7, 10), (box(0, 0, 3, 5), 0, 11), (box(0, 0, 3, 5), 6, 11),
            (ball(0, 0, 5), 9, 0), (ball(0, 0, 5), 9, 5), (ball(0, 0, 5), 0, 11), (ball(0, 0, 5), 3, 11),
        ):
            for sx in (1, -1):
                for sy in (1, -1):
                    with self.subTest(shape=shape, x=sx * x, y=sy * y):
                        self.assertEqual(self.room([shape], sx * x, sy * y, 4, 6), [])
        for shape, x, y in (
            (box(0, 0, 3, 5), 6, 0), (box(0, 0, 3, 5), 6, 10), (box(0, 0, 3, 5), 0, 10), (ball(0, 0, 5), 8, 0),
            (ball(0, 0, 5), 8, 5), (ball(0, 0, 5), 0, 10), (ball(0, 0, 5), 3, 10), (box(0, 0, 3, 5), 0, 0),
            (ball(0, 0, 5), 0, 0),
        ):
            for sx in (1, -1):
                for sy in (1, -1):
                    with self.subTest(shape=shape, x=sx * x, y=sy * y):
                        self.assertEqual(self.room([shape], sx * x, sy * y, 4, 6), [0])

    def test_a_ball_at_the_corner(self):
        # From the middle of the ball the corner is 3 and 4 away.
        for sx in (1, -1):
            for sy in (1, -1):
                self.assertEqual(self.room([ball(0, 0, 5)], sx * 13, sy * 24, 10, 20), [])
                self.assertEqual(self.room([ball(0, 0, 5)], sx * 12, sy * 24, 10, 20), [0])
                self.assertEqual(self.room([ball(0, 0, 5)], sx * 13, sy * 23, 10, 20), [0])

    def test_it_is_no_ball(self):
        self.assertEqual(self.room([box(15, 15, 6, 6)], 0, 0, 10, 10), [0])
        self.assertEqual(self.room([box(15, 15, 6, 6)], 0, 0, 9, 10), [])
        self.assertEqual(self.room([box(15, 15, 6, 6)], 0, 0, 10, 9), [])

    def test_all_numbers_rising(self):
        shapes = [box(20 * (k * 7 % 20), 0, 5, 5, k % 3) if k % 2 else ball(20 * (k * 7 % 20), 0, 5, k % 3) for k in range(20)]
        self.assertEqual(self.room(shapes, 190, 0, 100000, 1), list(range(20)))
        inside = [k for k in range(20) if 20 * (k * 7 % 20) <= 100]
        self.assertEqual(self.room(shapes, 50, 0, 50, 50), inside)
        self.assertEqual(self.room(shapes, -50, 0, 50, 50), [0])

    def test_where_bodies_are_now(self):
        calls = world((ball(0, 0, 5), (20, 0)))
        self.assertEqual(run(*calls, (ROOM, 0, 0, 1, 1), (ROOM, 20, 0, 1, 1))[-2:], [[0, 0], [0]])
        self.assertEqual(run(*calls, (TICK, 1), (ROOM, 0, 0, 1, 1), (ROOM, 20, 0, 1, 1))[-2:], [[0], [0, 0]])

    def test_it_puts_nothing_in(self):
        found = run((OPEN, 1, 0, 0), (ROOM, 0, 0, 9, 9), (PLACES,), ball(0, 0, 5))
        self.assertEqual(found[1:], [[0], [0], [0, 0]])

    def test_there_is_room_just_where_a_box_can_be_put(self):
        draw = random.Random(82)
        seen = {True: 0, False: 0}
        for attempt in range(600):
            shapes, ignored = draw_bodies(draw, draw.randint(1, 14), spread=20)
            place = [draw.randint(-25, 25), draw.randint(-25, 25), draw.randint(1, 8), draw.randint(1, 8)]
            expected = [k for k, s in enumerate(shapes) if model_within(model_body(box(*place)), model_body(s))]
            self.assertEqual(self.room(shapes, *place), expected, (shapes, place))
            put_in = last(*put(*shapes), box(*place))
            self.assertEqual(put_in, [-6] if expected else [0, len(shapes)])
            seen[expected == []] += 1
        self.assertGreater(min(seen.values()), 50)


class Sums(unittest.TestCase):
    def test_without_bodies(self):
        self.assertEqual(last((OPEN, 1, 0, 0), (SUMS,)), [0, 0, 0, 0])

    def test_at_first(self):
        self.assertEqual(last(*put(ball(0, 0, 1), ball(9, 0, 1, FIXED), box(30, 0, 1, 1, DRIVER)), (SUMS,)), [0, 0, 0, 0])

    def test_free_ones_and_drivers(self):
        calls = world((ball(0, 0, 1), (3, -4)), (box(30, 0, 1, 1, DRIVER), (-10, 20)), (ball(60, 0, 1), (1, 0)))
        self.assertEqual(last(*calls, (SUMS,)), [0, -6, 16, 526])

    def test_fixed_ones_do_not_count(self):
        walls = [(ball(50 * k, 50, 1, FIXED, k % 2, k // 2), None) for k in range(4)]
        calls = world((ball(0, 0, 1), (3, -4)), *walls, parts=2, pull=(9, 9))
        self.assertEqual(last(*calls, (SUMS,)), [0, 3, -4, 25])
        self.assertEqual(last(*calls, (AIM, 1, 5, 5), (AIM, 4, 5, 5), (TICK, 2), (SUMS,)), [0, 3, -4, 25])

    def test_with_a_pull(self):
        calls = world((ball(0, 0, 1, FREE, 0, 1), (3, -4)), (ball(90, 0, 1, DRIVER, 0, 1), (1, 1)), pull=(1, 2))
        self.assertEqual(last(*calls, (TICK, 2), (SUMS,)), [0, 6, 1, 27])

    def test_the_greatest(self):
        calls = world(*[(ball(0, 50 * k, 1), (-1000, 1000)) for k in range(20)])
        self.assertEqual(last(*calls, (SUMS,)), [0, -20000, 20000, 40000000])

    def test_behind_a_drop(self):
        calls = world((ball(0, 0, 1), (3, -4)), (ball(30, 0, 1), (1, 1)))
        self.assertEqual(last(*calls, (DROP, 0), (SUMS,)), [0, 1, 1, 2])

    def test_as_places_tells(self):
        draw = random.Random(83)
        for attempt in range(100):
            calls = begin(*draw_bodies(draw, draw.randint(0, 14)), 3, (1, -2))
            found = run(*calls, (TICK, draw.randint(1, 5)), (PLACES,), (SUMS,))
            in_x, in_y = found[-2][3::4], found[-2][4::4]
            self.assertEqual(found[-1], [0, sum(in_x), sum(in_y), sum(v * v for v in in_x + in_y)])


class Totals(unittest.TestCase):
    def test_ahead_of_open(self):
        self.assertEqual(run((TOTALS,), (TOTALS,)), [[0] * 6] * 2)
        self.assertEqual(run((OPEN, 17, 5, 5), (TICK, 1), (TOTALS,))[-1], [0] * 6)

    def test_behind_open(self):
        self.assertEqual(run((OPEN, 16, 100, -100), (TOTALS,))[-1], [0, 16, 100, -100, 0, 0])
        self.assertEqual(run((TOTALS,), (OPEN, 1, 0, 7), (TOTALS,)), [[0] * 6, [0], [0, 1, 0, 7, 0, 0]])
        self.assertEqual(run((OPEN, 3, -1, 2), (OPEN, 4, 5, 6), (TOTALS,))[-1], [0, 3, -1, 2, 0, 0])

    def test_bodies_are_counted(self):
        calls = [(OPEN, 2, 0, 0)]
        for count in range(1, 21):
            calls.append(ball(10 * count, 0, 5, count % 3))
            self.assertEqual(last(*calls, ball(10, 0, 5), (TOTALS,)), [0, 2, 0, 0, count, 0])

    def test_ticks_are_counted(self):
        calls = put(ball(0, 0, 5), ball(20, 0, 5))
        self.assertEqual(last(*calls, (TICK, 1), (TICK, 20), (TICK, 21), (TOTALS,)), [0, 1, 0, 0, 2, 21])
        self.assertEqual(last(*calls, *[(TICK, 20)] * 50, (TICK, 1), (TOTALS,)), [0, 1, 0, 0, 2, 1000])

    def test_behind_drop_and_renumber(self):
        calls = [(OPEN, 4, 1, -1), ball(0, 0, 5), ball(20, 0, 5), ball(40, 0, 5), (TICK, 7)]
        self.assertEqual(last(*calls, (DROP, 1), (TOTALS,)), [0, 4, 1, -1, 2, 7])
        self.assertEqual(last(*calls, renumber(2, 0, 1), (TOTALS,)), [0, 4, 1, -1, 3, 7])
        self.assertEqual(last(*calls, (DROP, 0), (DROP, 0), (DROP, 0), renumber(), (TICK, 2), (TOTALS,)), [0, 4, 1, -1, 0, 9])


if __name__ == "__main__":
    unittest.main()
