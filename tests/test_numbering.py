"""The calls drop and renumber."""

import random
import unittest

from tests.helper import (
    AIM, BODY, DRIVER, DROP, FIXED, FREE, MET, OPEN, ORDER, PLACES, RAY, ROOM, TICK, TOTALS, WOULD, ball, begin, box,
    draw_bodies, full_world, last, renumber, run, world,
)

MEETING = world((ball(0, 0, 5), (4, 0)), (ball(12, 0, 5, FIXED), None), (box(50, 0, 5, 5, DRIVER, 1), (1, 2)), (ball(90, 0, 5), None))


class Drop(unittest.TestCase):
    def test_those_behind_have_one_number_less(self):
        calls = world((ball(0, 0, 1), (1, 2)), (box(10, 0, 2, 3, DRIVER, 1), (3, 4)), (ball(20, 0, 3, FIXED, 0, 1), None))
        bodies = run(*calls, (BODY, 0), (BODY, 1), (BODY, 2))[-3:]
        for number in range(3):
            found = run(*calls, (DROP, number), (BODY, 0), (BODY, 1), (BODY, 2))[-4:]
            self.assertEqual(found, [[0]] + bodies[:number] + bodies[number + 1:] + [[-3]])

    def test_the_last_one_of_20(self):
        places = last(*full_world(), (PLACES,))
        self.assertEqual(run(*full_world(), (DROP, 19), (PLACES,), (DROP, 19))[-3:], [[0], places[:-4], [-3]])

    def test_all_of_them(self):
        found = run(*full_world(), *[(DROP, 0)] * 21, (PLACES,), (TOTALS,))
        self.assertEqual(found[21:], [[0]] * 20 + [[-3], [0], [0, 1, 0, 0, 0, 0]])

    def test_of_every_kind(self):
        for kind in (FIXED, FREE, DRIVER):
            self.assertEqual(run((OPEN, 1, 0, 0), ball(0, 0, 1, kind), (DROP, 0), (PLACES,))[-2:], [[0], [0]])

    def test_met_tells_none(self):
        self.assertEqual(last(*MEETING, (TICK, 1), (MET,)), [0, 0, 0, 1])
        for number in range(4):
            self.assertEqual(run(*MEETING, (TICK, 1), (DROP, number), (MET,))[-2:], [[0], [0]])

    def test_met_tells_anew_behind_the_next_tick(self):
        calls = [*MEETING, (TICK, 1), (DROP, 2), (AIM, 0, 4, 0), (TICK, 1), (MET,)]
        self.assertEqual(run(*calls)[-2:], [[0, 1], [0, 0, 0, 1]])
        calls = [*MEETING, (DROP, 3), (DROP, 2), ball(-50, 0, 5), renumber(2, 0, 1), (TICK, 1), (MET,)]
        self.assertEqual(run(*calls)[-2:], [[0, 1], [0, 0, 1, 2]])

    def test_a_refused_one_leaves_what_met_tells(self):
        self.assertEqual(run(*MEETING, (TICK, 1), (DROP, 4), (MET,))[-2:], [[-3], [0, 0, 0, 1]])

    def test_the_ticks_stay(self):
        calls = [(OPEN, 1, 0, 0), ball(0, 0, 1), *[(TICK, 20)] * 49, (TICK, 19), (DROP, 0)]
        self.assertEqual(run(*calls, (TOTALS,), (TICK, 2), (TICK, 1), (TOTALS,))[-4:], [
            [0, 1, 0, 0, 0, 999], [-8], [0, 0], [0, 1, 0, 0, 0, 1000],
        ])

    def test_the_place_is_free_again(self):
        calls = [(OPEN, 1, 0, 0), ball(0, 0, 5), ball(50, 0, 5)]
        self.assertEqual(run(*calls, (ROOM, 0, 0, 5, 5), ball(0, 0, 5))[-2:], [[0, 0], [-6]])
        found = run(*calls, (DROP, 0), (ROOM, 0, 0, 5, 5), (WOULD, 0, -50, 0), (RAY, -50, 0, 70, 0), ball(0, 0, 5), (BODY, 1))
        self.assertEqual(found[-6:], [[0], [0], [0], [0], [0, 1], [0, 1, 0, 0, 1, 5, 5, 0, 0, 0, 0]])

    def test_a_new_one_may_be_put_in_when_there_were_20(self):
        calls = full_world()
        self.assertEqual(run(*calls, ball(0, 0, 5), (DROP, 7), ball(0, 0, 5), ball(0, 50, 5))[-4:], [[-4], [0], [0, 19], [-4]])

    def test_it_is_as_if_it_had_not_been_put_in(self):
        draw = random.Random(91)
        for attempt in range(100):
            shapes, velocities = draw_bodies(draw, draw.randint(1, 12))
            number = draw.randrange(len(shapes))
            kept = [k for k in range(len(shapes)) if k != number]
            look = [(TICK, 1), (PLACES,), (MET,), (TICK, 5), (PLACES,), (MET,), (ORDER, -50, -50, 100, 100)]
            expected = run(*begin([shapes[k] for k in kept], [velocities[k] for k in kept], 2, (0, -1)), *look)
            found = run(*begin(shapes, velocities, 2, (0, -1)), (DROP, number), *look)
            self.assertEqual(found[-7:], expected[-7:])


class Renumber(unittest.TestCase):
    def test_the_list_s_first_one_is_0_now(self):
        calls = world((ball(0, 0, 1), (1, 2)), (box(10, 0, 2, 3, DRIVER, 1), (3, 4)), (ball(20, 0, 3, FIXED, 0, 1), None))
        bodies = run(*calls, (BODY, 0), (BODY, 1), (BODY, 2))[-3:]
        for order in ((0, 1, 2), (0, 2, 1), (1, 0, 2), (1, 2, 0), (2, 0, 1), (2, 1, 0)):
            found = run(*calls, renumber(*order), (BODY, 0), (BODY, 1), (BODY, 2))[-4:]
            self.assertEqual(found, [[0]] + [bodies[number] for number in order])

    def test_it_turns_all_about(self):
        places = last(*full_world(), (PLACES,))[1:]
        turned = [number for k in range(19, -1, -1) for number in places[4 * k:4 * k + 4]]
        self.assertEqual(last(*full_world(), renumber(*range(19, -1, -1)), (PLACES,)), [0] + turned)
        self.assertEqual(last(*full_world(), *[renumber(*range(19, -1, -1))] * 2, (PLACES,)), [0] + places)

    def test_one_behind_another(self):
        calls = [(OPEN, 1, 0, 0), ball(0, 0, 1), ball(10, 0, 1), ball(20, 0, 1)]
        self.assertEqual(last(*calls, renumber(1, 2, 0), (PLACES,))[1::4], [10, 20, 0])
        self.assertEqual(last(*calls, renumber(1, 2, 0), renumber(1, 2, 0), (PLACES,))[1::4], [20, 0, 10])
        self.assertEqual(last(*calls, *[renumber(1, 2, 0)] * 3, (PLACES,))[1::4], [0, 10, 20])

    def test_an_empty_list(self):
        self.assertEqual(run((OPEN, 1, 0, 0), renumber(), (PLACES,))[1:], [[0], [0]])
        self.assertEqual(run((OPEN, 1, 0, 0), ball(0, 0, 1), renumber())[-1], [-5])
        self.assertEqual(run((OPEN, 1, 0, 0), ball(0, 0, 1), (DROP, 0), renumber())[-1], [0])

    def test_met_tells_none(self):
        for order in ((0, 1, 2, 3), (3, 2, 1, 0)):
            self.assertEqual(run(*MEETING, (TICK, 1), renumber(*order), (MET,))[-2:], [[0], [0]])

    def test_a_refused_one_leaves_what_met_tells(self):
        for order in ((0, 1, 2), (3, 2, 1, 1), (3, 2, 1, 20), range(21)):
            found = run(*MEETING, (TICK, 1), renumber(*order), (MET,), (PLACES,))
            self.assertLess(found[-3][0], 0)
            self.assertEqual(found[-2:], run(*MEETING, (TICK, 1), (MET,), (PLACES,))[-2:])

    def test_a_refused_one_without_bodies_too(self):
        self.assertEqual(run((OPEN, 1, 0, 0), renumber(0), renumber(20), renumber(), renumber(0, 0))[1:], [[-5], [-1], [0], [-5]])

    def test_the_next_one_is_put_behind_all(self):
        calls = [(OPEN, 1, 0, 0), ball(0, 0, 1), ball(10, 0, 1), renumber(1, 0), ball(20, 0, 1), (PLACES,)]
        self.assertEqual(run(*calls)[-2:], [[0, 2], [0, 10, 0, 0, 0, 0, 0, 0, 0, 20, 0, 0, 0]])

    def test_calls_name_bodies_by_their_new_numbers(self):
        calls = [(OPEN, 1, 0, 0), ball(0, 0, 1), ball(10, 0, 1, FIXED), ball(20, 0, 1), renumber(2, 0, 1)]
        self.assertEqual(run(*calls, (AIM, 2, 1, 1), (AIM, 0, 7, 7), (AIM, 1, 8, 8), (PLACES,))[-4:], [
            [-7], [0], [0], [0, 20, 0, 7, 7, 0, 0, 8, 8, 10, 0, 0, 0],
        ])
        self.assertEqual(last(*calls, (WOULD, 1, 90, 0)), [0, 0, 2])
        self.assertEqual(last(*calls, (ROOM, 15, 0, 6, 6)), [0, 0, 2])
        self.assertEqual(last(*calls, (RAY, -1, 0, 100, 0)), [0, 1, 0, 2, 100, 0, 200])
        self.assertEqual(run(*calls, (DROP, 1), (PLACES,))[-1], [0, 20, 0, 0, 0, 10, 0, 0, 0])


if __name__ == "__main__":
    unittest.main()
