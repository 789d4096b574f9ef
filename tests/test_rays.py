"""Rays: the calls ray and order, and the comparing of times."""

import random
import unittest

from meetingbodies.rays import compare
from tests.helper import (
    AIM, DRIVER, FIXED, FREE, OPEN, ORDER, RAY, TICK, ball, box, last, rows, run, stamp, world,
)


def order(shapes, *ray):
    """What order tells; it's checked that ray tells the same numbers, with the right thousandths."""
    calls = [(OPEN, 1, 0, 0), *shapes]
    found = rows(last(*calls, (ORDER, *ray)), 4)
    assert rows(last(*calls, (RAY, *ray)), 2) == [(number, stamp(time, 1000)) for number, *time in found], (shapes, ray)
    return found


def time_to(shape, *ray):
    """The a, b, d that are told of a single body, or None."""
    found = order([shape], *ray)
    assert found == [] or [row[0] for row in found] == [0]
    return found[0][1:] if found else None


class Box(unittest.TestCase):
    # It reaches from 7 to 13 in x, from 16 to 24 in y.
    shape = box(10, 20, 3, 4)

    def check(self, ray, expected):
        with self.subTest(ray=ray):
            self.assertEqual(time_to(self.shape, *ray), expected)

    def test_hit_on_each_side(self):
        self.check((0, 20, 20, 0), (20, 7, 0))
        self.check((20, 20, -20, 0), (20, 7, 0))
        self.check((10, 10, 0, 20), (20, 6, 0))
        self.check((10, 30, 0, -20), (20, 6, 0))

    def test_hit_on_each_side_aslant(self):
        self.check((0, 18, 10, 1), (10, 7, 0))
        self.check((20, 18, -10, 1), (10, 7, 0))
        self.check((9, 10, 1, 10), (10, 6, 0))
        self.check((9, 30, 1, -10), (10, 6, 0))

    def test_the_fraction_is_not_shortened(self):
        self.check((3, 20, 16, 0), (16, 4, 0))
        self.check((3, 20, 100, 0), (100, 4, 0))
        self.check((3, 20, 4, 0), (4, 4, 0))
        self.check((10, 6, 0, 20), (20, 10, 0))

    def test_the_later_beginning_is_told(self):
        self.check((0, 15, 14, 4), (14, 7, 0))
        self.check((6, 0, 4, 20), (20, 16, 0))

    def test_where_both_beginnings_are_alike_x_s_is_told(self):
        # Both at the half of the way.
        self.check((0, 6, 14, 20), (14, 7, 0))
        self.check((20, 34, -14, -20), (14, 7, 0))
        self.check((0, 34, 14, -20), (14, 7, 0))
        self.check((20, 6, -14, 20), (14, 7, 0))
        # Both at the time 0.
        self.check((7, 16, 5, 9), (5, 0, 0))
        self.check((13, 24, -5, -9), (5, 0, 0))

    def test_at_a_corner_alone(self):
        # Into one range just as it leaves the other.
        self.check((0, 17, 14, 14), (14, 7, 0))
        self.check((4, 21, 6, 6), (6, 3, 0))
        self.check((4, 22, 6, 6), None)
        self.check((10, 13, 6, 6), (6, 3, 0))
        self.check((11, 13, 6, 6), None)
        self.check((10, 27, 6, -6), (6, 3, 0))
        self.check((16, 21, -6, 6), (6, 3, 0))
        self.check((16, 19, -6, -6), (6, 3, 0))
        self.check((4, 19, 6, -6), (6, 3, 0))
        self.check((4, 18, 6, -6), None)

    def test_along_an_edge(self):
        self.check((0, 24, 20, 0), (20, 7, 0))
        self.check((0, 25, 20, 0), None)
        self.check((0, 16, 20, 0), (20, 7, 0))
        self.check((0, 15, 20, 0), None)
        self.check((20, 24, -20, 0), (20, 7, 0))
        self.check((7, 0, 0, 20), (20, 16, 0))
        self.check((6, 0, 0, 20), None)
        self.check((13, 0, 0, 20), (20, 16, 0))
        self.check((14, 0, 0, 20), None)
        self.check((13, 40, 0, -20), (20, 16, 0))

    def test_in_neither_direction(self):
        for x, y in ((10, 20), (7, 20), (7, 16), (13, 24), (0, 0), (10, 24)):
            self.check((x, y, 0, 0), None)

    def test_beside_it(self):
        self.check((0, 0, 1000000, 0), None)
        self.check((0, 0, 0, 1000000), None)
        self.check((0, 20, -1000000, 0), None)
        self.check((10, 0, 0, -1000000), None)
        self.check((0, 0, 100, 100), None)
        self.check((0, 20, 20, 20), None)

    def test_from_within(self):
        for x, y in ((10, 20), (8, 17), (12, 23), (8, 23)):
            for way in ((1, 0), (-1, 0), (0, 1), (0, -1), (100, 100), (-100, 70), (0, 0)):
                self.check((x, y, *way), None)

    def test_from_an_edge_going_in(self):
        self.check((7, 20, 5, 0), (5, 0, 0))
        self.check((13, 20, -5, 0), (5, 0, 0))
        self.check((10, 16, 0, 5), (5, 0, 0))
        self.check((10, 24, 0, -5), (5, 0, 0))
        self.check((7, 20, 5, 100), (5, 0, 0))
        self.check((7, 20, 5, -100), (5, 0, 0))
        self.check((10, 24, 100, -5), (5, 0, 0))

    def test_from_an_edge_going_out(self):
        self.check((7, 20, -5, 0), None)
        self.check((13, 20, 5, 0), None)
        self.check((10, 16, 0, -5), None)
        self.check((10, 24, 0, 5), None)
        self.check((7, 20, -5, 2), None)
        self.check((13, 20, 5, -2), None)

    def test_from_an_edge_going_along_it(self):
        self.check((7, 20, 0, 5), None)
        self.check((7, 20, 0, -5), None)
        self.check((13, 20, 0, 500), None)
        self.check((10, 16, 5, 0), None)
        self.check((10, 24, -5, 0), None)

    def test_from_a_corner(self):
        self.check((13, 24, 0, -5), (5, 0, 0))
        self.check((13, 24, 0, 5), None)
        self.check((13, 24, -5, 0), (5, 0, 0))
        self.check((13, 24, 5, 0), None)
        self.check((13, 24, 5, 5), None)
        # It goes out in one direction, but into the range of the other at the time 0.
        self.check((13, 24, 5, -6), (6, 0, 0))
        self.check((13, 24, -5, 6), (5, 0, 0))
        self.check((7, 16, -5, 6), (6, 0, 0))
        self.check((7, 16, -5, -6), None)

    def test_the_way_ends_just_at_it(self):
        self.check((0, 20, 7, 0), (7, 7, 0))
        self.check((0, 20, 6, 0), None)
        self.check((20, 20, -7, 0), (7, 7, 0))
        self.check((20, 20, -6, 0), None)
        self.check((10, 0, 0, 16), (16, 16, 0))
        self.check((10, 0, 0, 15), None)
        self.check((10, 40, 0, -16), (16, 16, 0))
        self.check((10, 40, 0, -15), None)
        self.check((0, 0, 7, 16), (7, 7, 0))
        self.check((0, 0, 7, 15), None)
        self.check((0, 0, 6, 16), None)
        self.check((1, 0, 7, 16), (16, 16, 0))

    def test_great_numbers(self):
        shape = box(1000000, -1000000, 100000, 1)
        self.assertEqual(time_to(shape, -1000000, -1000000, 1000000, 0), None)
        self.assertEqual(time_to(shape, 0, -1000000, 1000000, 0), (1000000, 900000, 0))
        self.assertEqual(time_to(shape, 0, -1, 1000000, -999998), (999998, 999998, 0))
        self.assertEqual(time_to(shape, 0, 0, 1000000, -999998), None)
        self.assertEqual(time_to(shape, 0, 0, 1000000, -999999), (999999, 999999, 0))

    def test_of_every_kind(self):
        for kind in (FIXED, FREE, DRIVER):
            self.assertEqual(time_to(box(10, 20, 3, 4, kind, 1, 1), 0, 20, 20, 0), (20, 7, 0))
            self.assertEqual(time_to(ball(10, 20, 3, kind, 1, 1), 0, 20, 20, 0), (400, 200, 3600))


class Ball(unittest.TestCase):
    shape = ball(10, 20, 5)

    def check(self, ray, expected):
        with self.subTest(ray=ray):
            self.assertEqual(time_to(self.shape, *ray), expected)

    def test_hit_from_all_sides(self):
        self.check((0, 20, 20, 0), (400, 200, 10000))
        self.check((20, 20, -20, 0), (400, 200, 10000))
        self.check((10, 10, 0, 20), (400, 200, 10000))
        self.check((10, 30, 0, -20), (400, 200, 10000))
        self.check((0, 23, 20, 0), (400, 200, 6400))
        self.check((4, 12, 6, 8), (100, 100, 2500))
        self.check((0, 0, 10, 21), (541, 520, 13425))

    def test_touched_alone(self):
        self.check((0, 25, 20, 0), (400, 200, 0))
        self.check((0, 26, 20, 0), None)
        self.check((0, 15, 20, 0), (400, 200, 0))
        self.check((0, 14, 20, 0), None)
        self.check((5, 0, 0, 40), (1600, 800, 0))
        self.check((4, 0, 0, 40), None)
        self.check((15, 0, 0, 40), (1600, 800, 0))
        self.check((16, 0, 0, 40), None)
        # By the way 4, -3 it touches at 13, 24.
        self.check((5, 30, 16, -12), (400, 200, 0))
        self.check((5, 31, 16, -12), None)
        self.check((6, 30, 16, -12), None)

    def test_touched_at_the_end_of_the_way(self):
        self.check((0, 25, 10, 0), (100, 100, 0))
        self.check((0, 25, 9, 0), None)
        self.check((5, 30, 8, -6), (100, 100, 0))

    def test_in_neither_direction(self):
        for x, y in ((10, 20), (5, 20), (13, 24), (0, 0)):
            self.check((x, y, 0, 0), None)

    def test_beside_it_and_away_from_it(self):
        self.check((0, 0, 1000000, 0), None)
        self.check((0, 20, -1000000, 0), None)
        self.check((10, 0, 0, -1), None)
        self.check((0, 20, 0, 100), None)
        self.check((0, 0, 100, 100), None)

    def test_from_within(self):
        for x, y in ((10, 20), (6, 20), (12, 24), (13, 23)):
            for way in ((1, 0), (-1, 0), (0, 1), (0, -1), (100, 100), (-100, 70), (0, 0)):
                self.check((x, y, *way), None)

    def test_from_an_edge_going_in(self):
        self.check((5, 20, 5, 0), (25, 25, 625))
        self.check((5, 20, 1, 100), (10001, 5, 25))
        self.check((13, 24, -6, 0), (36, 18, 324))
        self.check((13, 24, 6, -8), (100, 14, 196))

    def test_from_an_edge_going_out(self):
        self.check((5, 20, -5, 0), None)
        self.check((5, 20, -1, 100), None)
        self.check((13, 24, 1, 0), None)
        self.check((13, 24, -1, 1), None)

    def test_from_an_edge_going_along_it(self):
        self.check((5, 20, 0, 5), (25, 0, 0))
        self.check((5, 20, 0, -5), (25, 0, 0))
        self.check((13, 24, 4, -3), (25, 0, 0))
        self.check((13, 24, -8, 6), (100, 0, 0))
        self.check((13, 24, -8, 7), None)
        self.check((13, 24, -8, 5), (89, 4, 16))

    def test_the_way_ends_just_at_it(self):
        self.check((0, 20, 5, 0), (25, 50, 625))
        self.check((0, 20, 4, 0), None)
        self.check((4, 12, 3, 4), (25, 50, 625))
        self.check((4, 12, 3, 3), None)
        self.check((4, 12, 2, 4), None)
        self.check((1, 8, 6, 8), (100, 150, 2500))
        self.check((1, 8, 6, 7), None)

    def test_great_numbers(self):
        shape = ball(1000000, 1000000, 100000)
        self.assertEqual(time_to(shape, 0, 0, 1000000, 1000000), (2 * 10 ** 12, 2 * 10 ** 12, 2 * 10 ** 22))
        # It ends at 60000 and 80000 from the middle, then one further away.
        self.assertEqual(
            time_to(shape, -10000, -20000, 950000, 940000),
            (950000 ** 2 + 940000 ** 2, 1010000 * 950000 + 1020000 * 940000,
             100000 ** 2 * (950000 ** 2 + 940000 ** 2) - (1010000 * 940000 - 1020000 * 950000) ** 2),
        )
        self.assertIsNotNone(time_to(shape, 0, 0, 940000, 920000))
        self.assertIsNone(time_to(shape, 0, 0, 940000, 919999))
        self.assertIsNone(time_to(shape, 0, 0, 939999, 920000))
        self.assertIsNotNone(time_to(shape, 0, 0, 940001, 920000))

    def test_touched_alone_by_a_great_way(self):
        # By the way 4, -3 it touches where the middle is 60000 and 80000 away.
        shape = ball(0, 0, 100000)
        self.assertEqual(time_to(shape, -340000, 380000, 800000, -600000), (10 ** 12, 5 * 10 ** 11, 0))
        self.assertEqual(time_to(shape, -340000, 380001, 800000, -600000), None)
        self.assertEqual(time_to(shape, -339999, 380000, 800000, -600000), None)
        self.assertIsNotNone(time_to(shape, -340001, 380000, 800000, -600000))
        self.assertEqual(time_to(shape, -340000, 380000, 800000, -599999), None)
        self.assertIsNotNone(time_to(shape, -340000, 380000, 799999, -600000))

    def test_bodies_that_left_the_range_of_places(self):
        calls = [(OPEN, 16, 0, 0), ball(1000000, 0, 5), (AIM, 0, 1000, 0), (TICK, 20), (TICK, 20)]
        self.assertEqual(last(*calls, (ORDER, 1000000, 0, 1000000, 0)), [0, 0, 10 ** 12, 64 * 10 ** 10, 25 * 10 ** 12])


class Earliest(unittest.TestCase):
    """The order in which bodies are told."""

    def check_first(self, first, second, *ray):
        """The first body is told first, whatever their numbers."""
        with self.subTest(first=first, second=second, ray=ray):
            self.assertEqual([row[0] for row in order([first, second], *ray)], [0, 1])
            self.assertEqual([row[0] for row in order([second, first], *ray)], [1, 0])

    def check_at_once(self, one, other, *ray):
        """Both are told, the least number first."""
        with self.subTest(one=one, other=other, ray=ray):
            self.assertEqual([row[0] for row in order([one, other], *ray)], [0, 1])
            self.assertEqual([row[0] for row in order([other, one], *ray)], [0, 1])

    def test_in_a_row(self):
        places = [70, 30, 110, 10, 90, 50]
        shapes = [box(x, 0, 4, 4) if x % 3 else ball(x, 0, 4) for x in places]
        self.assertEqual([row[0] for row in order(shapes, 0, 0, 1000, 0)], [3, 1, 5, 0, 4, 2])
        self.assertEqual([row[0] for row in order(shapes, 120, 0, -1000, 0)], [2, 4, 0, 5, 1, 3])
        self.assertEqual([row[0] for row in order(shapes, 0, 0, 66, 0)], [3, 1, 5, 0])
        self.assertEqual([row[0] for row in order(shapes, 0, 0, 65, 0)], [3, 1, 5])
        self.assertEqual([row[0] for row in order(shapes, 30, 0, 1000, 0)], [5, 0, 4, 2])

    def test_twenty_in_a_row(self):
        places = [k * 7 % 20 for k in range(20)]
        shapes = [ball(10 * place, 0, 5) if k % 2 else box(10 * place, 0, 5, 9) for k, place in enumerate(places)]
        found = order(shapes, -1000, 0, 10000, 0)
        self.assertEqual([places[row[0]] for row in found], list(range(20)))
        self.assertEqual([row[1:] for row in found if row[0] == 2], [(10000, 1000 + 140 - 5, 0)])

    def test_two_boxes_very_near(self):
        # 999998 / 999999 and 999999 / 1000000: it clips a corner of the one and goes into the other.
        self.check_first(box(-10, 10, 10, 10), box(10, 0, 10, 10), -999999, -999998, 1000000, 999999)
        found = order([box(10, 0, 10, 10), box(-10, 10, 10, 10)], -999999, -999998, 1000000, 999999)
        self.assertEqual(found, [(1, 999999, 999998, 0), (0, 1000000, 999999, 0)])
        self.check_first(box(10, -10, 10, 10), box(0, 10, 10, 10), -999998, -999999, 999999, 1000000)

    def test_two_boxes_at_once(self):
        # At the corner 0, 0 it touches the one and comes to the other; the fractions differ.
        self.check_at_once(box(-10, 10, 10, 10), box(10, 0, 10, 10), -1000000, -1000000, 1000000, 1000000)
        self.check_at_once(box(-10, 10, 10, 10), box(10, -10, 10, 10), -4, -6, 6, 9)
        found = order([box(-10, 10, 10, 10), box(10, -10, 10, 10)], -4, -6, 6, 9)
        self.assertEqual(found, [(0, 9, 6, 0), (1, 6, 4, 0)])

    def test_a_box_very_near_ahead_of_a_ball(self):
        ray = (-999999, -999998, 1000000, 999999)
        one, other = box(-10, 10, 10, 10), ball(5, 0, 5)
        self.check_first(one, other, *ray)
        times = [row[1:] for row in order([one, other], *ray)]
        self.assertLess(stamp(times[1], 10 ** 20) - stamp(times[0], 10 ** 20), 10 ** 9)

    def test_a_ball_very_near_ahead_of_a_box(self):
        ray = (-546489, -728651, 546489, 728651)
        one, other = ball(-8, 6, 10), box(10, -10, 10, 10)
        self.check_first(one, other, *ray)
        times = [row[1:] for row in order([one, other], *ray)]
        self.assertEqual(times[0][2], 36)
        self.assertLess(stamp(times[1], 10 ** 20) - stamp(times[0], 10 ** 20), 2 * 10 ** 9)

    def test_a_ball_and_a_box_at_once(self):
        # The ball is touched as the box's edge is come to.
        self.check_at_once(ball(0, 5, 5), box(10, -10, 10, 10), -30, 0, 100, 0)
        found = order([ball(0, 5, 5), box(10, -10, 10, 10)], -30, 0, 100, 0)
        self.assertEqual(found, [(0, 10000, 3000, 0), (1, 100, 30, 0)])
        # The box's corner is touched as the ball is come to.
        self.check_at_once(box(-10, 10, 10, 10), ball(5, 0, 5), -700000, -700000, 1000000, 1000000)
        found = order([ball(5, 0, 5), box(-10, 10, 10, 10)], -7, -7, 10, 10)
        self.assertEqual(found, [(0, 200, 190, 2500), (1, 10, 7, 0)])

    def test_two_balls_very_near(self):
        # The small one is only touched; the great one touches the small one and is come to just behind that.
        ray = (-366731, -366509, 999180, 998579)
        one, other = ball(0, 0, 1), ball(-67260, 67301, 95148)
        self.check_first(one, other, *ray)
        times = [row[1:] for row in order([one, other], *ray)]
        self.assertEqual([time[2] for time in times], [0, 268817648183])
        self.assertLess(stamp(times[1], 10 ** 20) - stamp(times[0], 10 ** 20), 2 * 10 ** 8)
        self.check_first(ball(0, 0, 1), ball(-69148, 71925, 99772), -377299, -362733, 989604, 951403)

    def test_two_balls_at_once(self):
        self.check_at_once(ball(0, 5, 5), ball(0, -5, 5), -30, 0, 100, 0)
        self.check_at_once(ball(0, 0, 1), ball(632, -99855, 99856), -99539, -631, 99855, 632)
        # Both touch at 0, 0, and the ray comes along between them.
        self.check_at_once(ball(-3000, 4000, 5000), ball(6, -8, 10), -600000, -450000, 800000, 600000)

    def test_all_at_once_at_one_point(self):
        shapes = [box(10, -5, 10, 5), ball(0, 5, 5), box(-10, -5, 10, 5)]
        # The last one is come to earlier: the ray goes along its edge.
        self.assertEqual(order(shapes, -30, 0, 60, 0), [(2, 60, 10, 0), (0, 60, 30, 0), (1, 3600, 1800, 0)])

    def test_from_edges_at_the_time_0(self):
        shapes = [box(5, -5, 5, 5), ball(0, 7, 7), box(-5, -5, 5, 5), box(30, 0, 5, 5)]
        self.assertEqual(order(shapes, 0, 0, 50, 0), [(0, 50, 0, 0), (1, 2500, 0, 0), (3, 50, 25, 0)])
        self.assertEqual([row[0] for row in order(shapes[::-1], 0, 0, 50, 0)], [2, 3, 0])

    def test_they_are_asked_where_they_are_now(self):
        calls = world((ball(0, 0, 5), (50, 0)), (ball(30, 200, 5), (0, -200)))
        self.assertEqual(rows(last(*calls, (RAY, -10, 0, 100, 0)), 2), [(0, 50)])
        self.assertEqual(rows(last(*calls, (TICK, 1), (RAY, -10, 0, 100, 0)), 2), [(1, 350), (0, 550)])

    def test_without_bodies(self):
        self.assertEqual(run((OPEN, 1, 0, 0), (RAY, 0, 0, 1, 1), (ORDER, 0, 0, 1, 1))[1:], [[0], [0]])


class Thousandths(unittest.TestCase):
    def thousandths(self, shape, *ray):
        found = last((OPEN, 1, 0, 0), shape, (RAY, *ray))
        self.assertEqual(found[:2], [0, 0])
        self.assertEqual(len(found), 3)
        return found[2]

    def test_of_boxes(self):
        for number in (1, 2, 7, 499, 500, 501, 998, 999):
            for off, expected in ((-1, number - 1), (0, number), (1, number)):
                with self.subTest(number=number, off=off):
                    edge = 1000 * number + off
                    self.assertEqual(self.thousandths(box(edge + 5, 0, 5, 5), 0, 0, 1000000, 0), expected)
                    self.assertEqual(self.thousandths(box(0, -edge - 5, 5, 5), 0, 0, 0, -1000000), expected)

    def test_of_balls_at_whole_numbers(self):
        for number in (1, 2, 7, 499, 500, 501, 998, 999):
            for off, expected in ((-1, number - 1), (0, number), (1, number)):
                with self.subTest(number=number, off=off):
                    edge = 1000 * number + off
                    self.assertEqual(self.thousandths(ball(edge + 5, 0, 5), 0, 0, 1000000, 0), expected)
                    self.assertEqual(self.thousandths(ball(edge + 3, 4, 5), 0, 0, 1000000, 0), expected)
                    self.assertEqual(self.thousandths(ball(edge, 5, 5), 0, 0, 1000000, 0), expected)

    def test_of_balls_very_near_a_thousandth(self):
        # What's under the root is a little more than the square of a whole number, then a little less.
        for r, y, root in ((9, 8, 4), (9, 4, 8), (33, 31, 11), (99999, 447, 99998), (49782, 4469, 49581)):
            over = r * r - y * y - root * root
            with self.subTest(r=r, y=y):
                self.assertGreater(over, 0)
                self.assertEqual(self.thousandths(ball(500000 + root, y, r), 0, 0, 1000000, 0), 499)
                self.assertEqual(self.thousandths(ball(500001 + root, y, r), 0, 0, 1000000, 0), 500)
        for r, y, root in ((8, 7, 4), (7, 2, 7), (99999, 448, 99998), (100000, 1, 100000)):
            over = r * r - y * y - root * root
            with self.subTest(r=r, y=y):
                self.assertLess(over, 0)
                self.assertEqual(self.thousandths(ball(500000 + root, y, r), 0, 0, 1000000, 0), 500)
                self.assertEqual(self.thousandths(ball(499999 + root, y, r), 0, 0, 1000000, 0), 499)

    def test_at_0_and_at_1(self):
        self.assertEqual(self.thousandths(box(5, 0, 5, 5), 0, 0, 1000000, 0), 0)
        self.assertEqual(self.thousandths(ball(5, 0, 5), 0, 0, 1000000, 0), 0)
        self.assertEqual(self.thousandths(box(6, 0, 5, 5), 0, 0, 1000000, 0), 0)
        self.assertEqual(self.thousandths(ball(9, 0, 5), 0, 0, 9, 0), 444)
        self.assertEqual(self.thousandths(box(15, 0, 5, 5), 0, 0, 10, 0), 1000)
        self.assertEqual(self.thousandths(ball(15, 0, 5), 0, 0, 10, 0), 1000)
        self.assertEqual(self.thousandths(ball(1000000, 0, 5), 0, 0, 999996, 0), 999)
        self.assertEqual(self.thousandths(ball(1000000, 0, 5), 0, 0, 999995, 0), 1000)
        self.assertEqual(self.thousandths(box(1000000, 0, 5, 5), 0, 0, 999996, 0), 999)

    def test_of_short_ways(self):
        self.assertEqual(self.thousandths(box(6, 0, 5, 5), 0, 0, 3, 0), 333)
        self.assertEqual(self.thousandths(box(7, 0, 5, 5), 0, 0, 3, 0), 666)
        self.assertEqual(self.thousandths(box(-6, 0, 5, 5), 0, 0, -7, 0), 142)


class Compare(unittest.TestCase):
    """Which of two times (b - the root of d) / a is later."""

    def check(self, one, other, expected):
        with self.subTest(one=one, other=other):
            self.assertEqual(compare(one, other), expected)
            self.assertEqual(compare(other, one), -expected)
            self.assertEqual(compare(one, one), 0)
            self.assertEqual(compare(other, other), 0)

    def test_fractions(self):
        self.check((2, 1, 0), (4, 2, 0), 0)
        self.check((3, 1, 0), (3, 2, 0), -1)
        self.check((3, 1, 0), (2, 1, 0), -1)
        self.check((5, 0, 0), (7, 0, 0), 0)
        self.check((10 ** 6, 10 ** 6 - 1, 0), (10 ** 6 - 1, 10 ** 6 - 2, 0), 1)

    def test_roots(self):
        self.check((1, 9, 2), (1, 9, 3), 1)
        self.check((1, 9, 2), (1, 8, 2), 1)
        self.check((1, 9, 2), (1, 10, 3), -1)
        self.check((1, 9, 2), (1, 10, 6), 1)
        self.check((1, 9, 4), (1, 7, 0), 0)
        self.check((1, 9, 4), (1, 10, 9), 0)
        self.check((1, 9, 8), (1, 9, 8), 0)
        self.check((1, 9, 8), (2, 18, 32), 0)
        self.check((3, 9, 8), (5, 15, 24), 1)
        self.check((1, 3, 9), (7, 0, 0), 0)

    def test_very_near(self):
        for n in (10, 1000, 10 ** 6, 10 ** 9, 10 ** 12, 10 ** 18):
            # The root of n n + 2 is a little less than n + 1 / n, and more than n.
            self.check((1, 3 * n, n * n + 2), (n, 2 * n * n - 1, 0), 1)
            self.check((1, 3 * n, n * n + 2), (1, 2 * n, 0), -1)
            # The root of n n - 2 is a little less than n - 1 / n.
            self.check((1, 3 * n, n * n - 2), (n, 2 * n * n + 1, 0), 1)
            self.check((1, 3 * n, n * n + 1), (1, 3 * n, n * n + 2), 1)
            # Twice the root of n n + 1 is a little more than n and the root of n n + 2.
            self.check((1, 4 * n, 4 * n * n + 4), (1, 3 * n, n * n + 2), -1)
            self.check((1, 4 * n, 4 * n * n + 4), (2, 8 * n, 16 * n * n + 16), 0)
            self.check((1, 4 * n, n * n + 2), (1, 5 * n, 4 * n * n + 4), 1)

    def test_drawn(self):
        draw = random.Random(101)
        seen = {-1: 0, 0: 0, 1: 0}
        for attempt in range(20000):
            most = draw.choice((3, 10, 1000, 10 ** 12))
            one = (draw.randint(1, most), draw.randint(0, most), draw.choice((0, draw.randint(0, most), draw.randint(0, most) ** 2)))
            other = (draw.randint(1, most), draw.randint(0, most), draw.choice((0, draw.randint(0, most), one[2])))
            if draw.randint(0, 9) == 0:
                other = (one[0] * most, one[1] * most, one[2] * most ** 2)
            stamps = [stamp(time, 10 ** 150) for time in (one, other)]
            expected = (stamps[0] > stamps[1]) - (stamps[0] < stamps[1])
            self.assertEqual(compare(one, other), expected, (one, other))
            seen[expected] += 1
        self.assertGreater(min(seen.values()), 1000)

    def test_times_below_0_too(self):
        self.check((1, 0, 2), (1, -1, 0), -1)
        self.check((1, -3, 0), (1, -2, 0), -1)
        self.check((1, -3, 0), (2, -6, 0), 0)
        self.check((1, -3, 2), (1, -2, 6), 1)


if __name__ == "__main__":
    unittest.main()
