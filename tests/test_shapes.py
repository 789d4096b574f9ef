"""Shapes: when two are within one another, and when they come within one another on a way."""

import random
import unittest

from tests.helper import (
    FIXED, FREE, OPEN, after, ball, begin, box, draw_shape, last, model_bodies, model_body, model_comes, model_within, world,
)


def are_within(one, other):
    """Whether two shapes are within one another, told by whether both can be put in; whichever is put in first."""
    found = [last((OPEN, 1, 0, 0), one, other), last((OPEN, 1, 0, 0), other, one)]
    assert found in ([[-6], [-6]], [[0, 1], [0, 1]]), (one, other, found)
    return found[0] == [-6]


def come_within(one, one_way, other, other_way):
    """Whether two shapes meet in a part, whichever is put in first."""
    found = after(world((one, one_way), (other, other_way)))[1]
    swapped = after(world((other, other_way), (one, one_way)))[1]
    assert found == swapped and found in ([], [(0, 0, 1)]), (one, one_way, other, other_way, found, swapped)
    return found != []


class Within(unittest.TestCase):
    def check(self, one, shape, touching, inside):
        """Shape at each of the touching places only touches; one less and it's within."""
        for x, y in touching:
            with self.subTest(x=x, y=y):
                self.assertFalse(are_within(one, shape(x, y)))
        for x, y in inside:
            with self.subTest(x=x, y=y):
                self.assertTrue(are_within(one, shape(x, y)))

    def test_two_boxes(self):
        touching = [(7, 0), (-7, 0), (7, 10), (7, -10), (0, 11), (0, -11), (6, 11), (-6, -11), (7, 11), (-7, 11)]
        inside = [(6, 0), (-6, 0), (6, 10), (-6, 10), (6, -10), (-6, -10), (0, 10), (0, -10), (0, 0)]
        self.check(box(0, 0, 3, 5), lambda x, y: box(x, y, 4, 6), touching, inside)

    def test_a_box_around_a_box(self):
        self.assertTrue(are_within(box(0, 0, 50, 50), box(30, -30, 1, 1)))
        self.assertTrue(are_within(box(0, 0, 50, 1), box(0, 0, 1, 50)))

    def test_two_balls(self):
        touching = [(5, 0), (-5, 0), (0, 5), (0, -5), (3, 4), (-4, 3), (-3, -4), (4, 4), (-1, 5)]
        inside = [(4, 0), (-4, 0), (0, 4), (0, -4), (3, 3), (2, 4), (-4, 2), (-2, -4), (0, 0)]
        self.check(ball(0, 0, 2), lambda x, y: ball(x, y, 3), touching, inside)

    def test_two_great_balls(self):
        touching = [(120000, 160000), (-160000, 120000), (200000, 0), (56000, -192000), (141422, 141421)]
        inside = [(119999, 160000), (-160000, 119999), (199999, 0), (199999, 632), (56000, -191999), (141421, 141421)]
        self.check(ball(0, 0, 100000), lambda x, y: ball(x, y, 100000), touching, inside)

    def test_a_ball_beside_a_box(self):
        touching = [(8, 0), (8, 4), (8, -4), (-8, 3), (0, 9), (3, 9), (-3, -9), (0, -9)]
        inside = [(7, 0), (7, 4), (7, -4), (-7, 3), (0, 8), (3, 8), (-3, -8), (0, -8), (0, 0), (3, 4)]
        self.check(box(0, 0, 3, 4), lambda x, y: ball(x, y, 5), touching, inside)

    def test_a_ball_at_a_box_s_corner(self):
        touching = [(3 + 3, 4 + 4), (3 + 4, 4 + 3), (3 + 5, 4), (3, 4 + 5), (3 + 4, 4 + 4), (3 + 1, 4 + 5)]
        inside = [(3 + 3, 4 + 3), (3 + 2, 4 + 4), (3 + 4, 4 + 2), (3 + 4, 4), (3 + 4, 4 - 1), (3, 4 + 4)]
        for sx in (1, -1):
            for sy in (1, -1):
                self.check(
                    box(0, 0, 3, 4), lambda x, y: ball(x, y, 5),
                    [(sx * x, sy * y) for x, y in touching], [(sx * x, sy * y) for x, y in inside],
                )

    def test_a_ball_and_a_box_one_about_the_other(self):
        self.assertTrue(are_within(box(0, 0, 100, 100), ball(90, 90, 1)))
        self.assertTrue(are_within(box(60, 60, 1, 1), ball(0, 0, 100)))
        self.assertTrue(are_within(box(71, 71, 1, 1), ball(0, 0, 100)))
        self.assertFalse(are_within(box(72, 72, 1, 1), ball(0, 0, 100)))

    def test_drawn_pairs_as_the_model_says(self):
        draw = random.Random(1)
        seen = {True: 0, False: 0}
        for attempt in range(3000):
            one = draw_shape(draw, 8, 7, (FREE,))
            other = draw_shape(draw, 8, 7, (FREE,))
            expected = model_within(model_body(one), model_body(other))
            seen[expected] += 1
            self.assertEqual(are_within(one, other), expected, (one, other))
        self.assertGreater(min(seen.values()), 500)


class OnAWay(unittest.TestCase):
    def test_boxes_that_would_pass_through_one_another(self):
        self.assertTrue(come_within(box(0, 0, 1, 1), (100, 0), box(50, 0, 1, 1, FIXED), None))
        self.assertTrue(come_within(box(0, 0, 1, 1), (0, -100), box(0, -50, 1, 1), (0, 0)))
        self.assertTrue(come_within(box(0, 0, 1, 1), (100, 0), box(100, 0, 1, 1), (-100, 0)))
        self.assertTrue(come_within(box(0, 0, 1, 1), (100, 100), box(100, 0, 1, 1), (-100, 100)))
        self.assertTrue(come_within(box(0, 0, 1, 1), (997, 991), box(499, 495, 1, 1), None))

    def test_balls_that_would_pass_through_one_another(self):
        self.assertTrue(come_within(ball(0, 0, 1), (100, 0), ball(50, 0, 1, FIXED), None))
        self.assertTrue(come_within(ball(0, 0, 1), (100, 0), ball(100, 0, 1), (-100, 0)))
        self.assertTrue(come_within(ball(0, 0, 1), (997, 991), ball(499, 495, 1), None))

    def test_a_ball_and_a_box_that_would_pass_through_one_another(self):
        self.assertTrue(come_within(ball(0, 0, 1), (100, 0), box(50, 0, 1, 1, FIXED), None))
        self.assertTrue(come_within(ball(0, 0, 1), (0, 100), box(0, 100, 1, 1), (0, -100)))
        self.assertTrue(come_within(ball(0, 0, 1), (997, 991), box(499, 495, 1, 1), None))

    def test_ways_that_cross_at_other_times(self):
        self.assertFalse(come_within(ball(0, 0, 1), (100, 0), ball(50, 10, 1), (0, -100)))
        self.assertTrue(come_within(ball(0, 0, 1), (100, 0), ball(50, 50, 1), (0, -100)))
        self.assertFalse(come_within(box(0, 0, 1, 1), (100, 0), box(50, 10, 1, 1), (0, -100)))
        self.assertFalse(come_within(ball(0, 0, 1), (100, 0), box(50, 10, 1, 1), (0, -100)))

    def test_the_end_of_a_way(self):
        for other in (box(30, 0, 5, 5), ball(30, 0, 5)):
            for shape in (box(0, 0, 5, 5), ball(0, 0, 5)):
                self.assertFalse(come_within(shape, (20, 0), other, None))
                self.assertTrue(come_within(shape, (21, 0), other, None))
                self.assertFalse(come_within(shape, (10, 7), other, (-10, 7)))
                self.assertTrue(come_within(shape, (11, 7), other, (-10, 7)))

    def test_the_end_of_a_slanting_way(self):
        self.assertFalse(come_within(ball(0, 0, 5), (8, 0), ball(14, 8, 5), None))
        self.assertTrue(come_within(ball(0, 0, 5), (9, 0), ball(14, 8, 5), None))
        self.assertFalse(come_within(ball(0, 0, 5), (4, 2), ball(12, 8, 5), (2, 0)))
        self.assertFalse(come_within(box(0, 0, 5, 5), (5, 5), box(15, 15, 5, 5), None))
        self.assertFalse(come_within(box(0, 0, 5, 5), (6, 5), box(15, 15, 5, 5), None))
        self.assertTrue(come_within(box(0, 0, 5, 5), (6, 6), box(15, 15, 5, 5), None))
        self.assertFalse(come_within(box(0, 0, 5, 5), (5, 4), ball(13, 13, 5), None))
        self.assertTrue(come_within(box(0, 0, 5, 5), (5, 5), ball(13, 13, 5), None))

    def test_touching_along_the_way(self):
        for other in (box(50, 10, 5, 5), ball(50, 10, 5)):
            for shape, nearer in ((box(0, 0, 5, 5), box(0, 1, 5, 5)), (ball(0, 0, 5), ball(0, 1, 5))):
                self.assertFalse(come_within(shape, (100, 0), other, None))
                self.assertFalse(come_within(shape, (60, 3), other, (-40, 3)))
                self.assertTrue(come_within(nearer, (100, 0), other, None))
                self.assertTrue(come_within(nearer, (60, 3), other, (-40, 3)))

    def test_those_that_touch_and_part_or_slide_do_not_meet(self):
        for other in (box(10, 0, 5, 5), ball(10, 0, 5)):
            for shape in (box(0, 0, 5, 5), ball(0, 0, 5)):
                for one_way, other_way, expected in (
                    ((-1, 0), (0, 0), False), ((0, 0), (1, 0), False), ((-9, 0), (9, 0), False), ((0, 9), (0, 0), False),
                    ((7, 3), (7, 3), False), ((0, 0), (0, 0), False), ((6, 0), (7, 0), False), ((-7, 0), (-6, 0), False),
                    ((1, 0), (0, 0), True), ((0, 0), (-1, 0), True), ((7, 0), (6, 0), True), ((-6, 1), (-7, 1), True),
                    ((1, 1), (0, 0), True),
                ):
                    self.assertEqual(come_within(shape, one_way, other, other_way), expected)

    def test_a_way_away_from_one_that_lies_behind(self):
        for other in (box(30, 0, 5, 5), ball(30, 0, 5)):
            for shape in (box(0, 0, 5, 5), ball(0, 0, 5)):
                self.assertFalse(come_within(shape, (-100, 0), other, None))
                self.assertFalse(come_within(shape, (0, 100), other, None))
                self.assertFalse(come_within(shape, (100, 0), other, (100, 0)))
                self.assertFalse(come_within(shape, (100, 0), other, (120, 0)))

    def test_a_box_passes_a_box_s_corner(self):
        # On the line x - y = 20 the corners just touch.
        self.assertFalse(come_within(box(-30, -50, 5, 5), (100, 100), box(0, 0, 5, 5, FIXED), None))
        self.assertTrue(come_within(box(-31, -50, 5, 5), (100, 100), box(0, 0, 5, 5, FIXED), None))
        # With the way 3, 7 they touch where 7 x - 3 y is 7 * 10 + 3 * 10.
        self.assertFalse(come_within(box(-20, -80, 5, 5), (60, 140), box(0, 0, 5, 5, FIXED), None))
        self.assertTrue(come_within(box(-20, -79, 5, 5), (60, 140), box(0, 0, 5, 5, FIXED), None))
        self.assertTrue(come_within(box(20, 79, 5, 5), (-60, -140), box(0, 0, 5, 5, FIXED), None))
        self.assertFalse(come_within(box(20, 80, 5, 5), (-60, -140), box(0, 0, 5, 5, FIXED), None))

    def test_a_ball_passes_a_ball(self):
        # With the way 4, 3 the middles come to 10 where 3 x - 4 y is 50.
        self.assertFalse(come_within(ball(-30, -35, 5), (80, 60), ball(0, 0, 5, FIXED), None))
        self.assertTrue(come_within(ball(-31, -35, 5), (80, 60), ball(0, 0, 5, FIXED), None))
        self.assertTrue(come_within(ball(-30, -34, 5), (80, 60), ball(0, 0, 5, FIXED), None))
        self.assertFalse(come_within(ball(-29, -35, 5), (80, 60), ball(0, 0, 5, FIXED), None))

    def test_a_ball_passes_a_box_s_corner(self):
        # With the way 4, -3 a ball of radius 5 touches the corner 10, 10 as its middle comes to 13, 14.
        shifts = ((0, 0, False), (-1, 0, True), (0, -1, True), (1, 0, False), (0, 1, False), (-4, 3, False))
        for sx in (1, -1):
            for sy in (1, -1):
                for back in (20, 41, 77):
                    for x, y, expected in shifts:
                        shape = ball(sx * (13 - 4 * back + x), sy * (14 + 3 * back + y), 5)
                        way = (sx * 8 * back, sy * -6 * back)
                        found = come_within(shape, way, box(0, 0, 10, 10, FIXED), None)
                        self.assertEqual(found, expected, (sx, sy, back, x, y))

    def test_a_ball_nearest_to_a_corner_at_a_fraction_of_a_part(self):
        # Beginning and end of the way are both further than 5 from the corner 10, 10.
        self.assertTrue(come_within(ball(10, 16, 5), (6, -5), box(0, 0, 10, 10, FIXED), None))
        self.assertFalse(come_within(ball(10, 16, 5), (8, -5), box(0, 0, 10, 10, FIXED), None))

    def test_fractions_of_a_part_with_great_bodies(self):
        great = ball(0, 0, 100000, FIXED)
        self.assertFalse(come_within(ball(-500, 100001, 1), (1000, 0), great, None))
        self.assertFalse(come_within(box(-500, 100001, 1, 1), (1000, 0), great, None))
        self.assertTrue(come_within(box(-500, 100001, 1, 1), (1000, -1), great, None))
        self.assertTrue(come_within(ball(-448, 100000, 1), (896, 0), great, None))
        self.assertTrue(come_within(ball(-448, 100000, 1), (1, 0), great, None))
        self.assertFalse(come_within(ball(-449, 100000, 1), (1, 0), great, None))

    def test_drawn_pairs_as_the_model_says(self):
        draw = random.Random(2)
        seen = {True: 0, False: 0}
        while min(seen.values()) < 1000:
            shapes = [draw_shape(draw, 14, 6, (FREE,)), draw_shape(draw, 14, 6, (FREE,))]
            ways = [(draw.randint(-20, 20), draw.randint(-20, 20)) for shape in shapes]
            bodies = model_bodies(shapes, ways)
            if model_within(*bodies):
                continue
            expected = model_comes(*bodies, *ways)
            seen[expected] += 1
            self.assertEqual(after(begin(shapes, ways))[1] != [], expected, (shapes, ways))

    def test_each_length_of_drawn_ways(self):
        """So that the length at which two begin to meet is among them."""
        draw = random.Random(3)
        for attempt in range(300):
            shapes = [draw_shape(draw, 5, 4, (FREE,)), draw_shape(draw, 5, 4, (FREE,))]
            shapes[1] = (shapes[1][0], shapes[1][1] + 30) + shapes[1][2:]
            steep = draw.randint(-8, 8)
            for length in range(10, 40):
                way = (length, steep)
                expected = model_comes(*model_bodies(shapes, [way, (0, 0)]), way, (0, 0))
                self.assertEqual(come_within(shapes[0], way, shapes[1], (0, 0)), expected, (shapes, way))


if __name__ == "__main__":
    unittest.main()
