"""A tick: its parts, the pull, the cut, several ticks in one call, and what met tells."""

import unittest

from tests.helper import (
    AIM, BODY, DRIVER, FIXED, FREE, MET, OPEN, PLACES, TICK, after, ball, box, last, run, world,
)


class Parts(unittest.TestCase):
    def test_a_tick_has_as_many_parts_as_told(self):
        for parts in (1, 2, 15, 16):
            self.assertEqual(after(world((ball(0, 0, 1), (7, -3)), parts=parts))[0], [(7 * parts, -3 * parts, 7, -3)])

    def test_a_crate_is_pushed_to_a_wall_and_then_all_rests(self):
        calls = world((box(0, 0, 5, 5, DRIVER), (6, 0)), (box(13, 0, 5, 5), None), (box(40, 0, 5, 5, FIXED), None), parts=7)
        # The driver meets the crate; two parts long both go on; then the crate meets the wall, and the driver the crate.
        places, met = after(calls)
        self.assertEqual(met, [(0, 0, 1), (3, 1, 2), (3, 0, 1)])
        self.assertEqual(places, [(12, 0, 0, 0), (25, 0, 0, 0), (40, 0, 0, 0)])

    def test_a_hard_ball_goes_to_and_fro_between_walls(self):
        calls = world((ball(0, 0, 5, FREE, 1), (4, 1)), (box(16, 0, 5, 90, FIXED), None), (box(-14, 0, 5, 90, FIXED), None), parts=6)
        # It goes to 4, meets the right one, goes to 0 and -4, meets the left one, goes to 0; in y it goes while it moves.
        places, met = after(calls)
        self.assertEqual(met, [(1, 0, 1), (4, 0, 2)])
        self.assertEqual(places[0], (0, 4, 4, 1))

    def test_one_slides_on_along_a_wall(self):
        calls = world((box(0, 0, 5, 5), (4, 1)), (box(12, 0, 5, 90, FIXED), None), parts=10)
        self.assertEqual(after(calls), ([(0, 9, 0, 1), (12, 0, 0, 0)], [(0, 0, 1)]))


class Pull(unittest.TestCase):
    def moved(self, shape, velocity, pull, parts=1, ticks=1):
        return after(world((shape, velocity), parts=parts, pull=pull), ticks)[0][0]

    def test_on_free_heavy_ones_alone(self):
        for hard in (0, 1):
            self.assertEqual(self.moved(ball(0, 0, 1, FREE, hard, 1), (5, 5), (3, -2)), (8, 3, 8, 3))
            self.assertEqual(self.moved(box(0, 0, 1, 1, FREE, hard, 1), None, (3, -2)), (3, -2, 3, -2))
            self.assertEqual(self.moved(ball(0, 0, 1, FREE, hard, 0), (5, 5), (3, -2)), (5, 5, 5, 5))
            self.assertEqual(self.moved(ball(0, 0, 1, DRIVER, hard, 1), (5, 5), (3, -2)), (5, 5, 5, 5))
            self.assertEqual(self.moved(ball(0, 0, 1, DRIVER, hard, 0), (5, 5), (3, -2)), (5, 5, 5, 5))
            self.assertEqual(self.moved(ball(0, 0, 1, FIXED, hard, 1), None, (3, -2)), (0, 0, 0, 0))
            self.assertEqual(self.moved(ball(0, 0, 1, FIXED, hard, 0), None, (3, -2)), (0, 0, 0, 0))

    def test_once_a_tick_at_its_beginning(self):
        self.assertEqual(self.moved(ball(0, 0, 1, FREE, 0, 1), None, (1, -10), parts=4), (4, -40, 1, -10))
        self.assertEqual(self.moved(ball(0, 0, 1, FREE, 0, 1), None, (1, -10), parts=4, ticks=3), (24, -240, 3, -30))

    def test_not_without_a_tick(self):
        self.assertEqual(last((OPEN, 1, 5, 5), ball(0, 0, 1, FREE, 0, 1), (PLACES,)), [0, 0, 0, 0, 0])

    def test_the_greatest_pull(self):
        for pull in ((100, -100), (-100, 100)):
            self.assertEqual(self.moved(ball(0, 0, 1, FREE, 0, 1), None, pull), pull * 2)

    def test_the_cut(self):
        for begin, pull, end in (
            ((900, -900), (100, -100), (1000, -1000)), ((901, -901), (100, -100), (1000, -1000)),
            ((899, -899), (100, -100), (999, -999)), ((1000, 0), (100, 100), (1000, 100)),
            ((0, -1000), (-100, -100), (-100, -1000)), ((-1000, 1000), (-1, 1), (-1000, 1000)),
            ((-1000, 1000), (1, -1), (-999, 999)),
        ):
            with self.subTest(begin=begin, pull=pull):
                self.assertEqual(self.moved(ball(0, 0, 1, FREE, 0, 1), begin, pull), end * 2)

    def test_the_cut_is_done_in_each_tick(self):
        self.assertEqual(self.moved(ball(0, 0, 1, FREE, 0, 1), None, (0, -100), ticks=20), (0, -15500, 0, -1000))
        calls = [(OPEN, 1, 0, -100), ball(0, 0, 1, FREE, 0, 1), (TICK, 20), (AIM, 0, 0, 1000), (TICK, 1), (PLACES,)]
        self.assertEqual(last(*calls), [0, 0, -14600, 0, 900])

    def test_what_is_heavy_comes_to_rest(self):
        calls = world((ball(0, 30, 5, FREE, 0, 1), None), (box(0, -10, 50, 10, FIXED), None), parts=2, pull=(0, -3))
        # It goes twice 3, then twice 6; by 9 it would come within the ground, so it stays and begins anew with 3.
        self.assertEqual(after(calls, 2), ([(0, 12, 0, -6), (0, -10, 0, 0)], []))
        self.assertEqual(after(calls, 3), ([(0, 12, 0, 0), (0, -10, 0, 0)], [(0, 0, 1)]))
        self.assertEqual(after(calls, 4), ([(0, 6, 0, -3), (0, -10, 0, 0)], []))
        self.assertEqual(after(calls, 5), ([(0, 6, 0, 0), (0, -10, 0, 0)], [(0, 0, 1)]))
        self.assertEqual(after(calls, 6), ([(0, 6, 0, 0), (0, -10, 0, 0)], [(0, 0, 1)]))
        self.assertEqual(after(calls, 20), ([(0, 6, 0, 0), (0, -10, 0, 0)], [(0, 0, 1)]))


class SeveralTicks(unittest.TestCase):
    calls = world(
        (ball(0, 0, 5, FREE, 1, 1), (9, 1)), (box(30, 0, 5, 9, FREE, 1), (-4, 0)), (box(60, 0, 5, 90, FIXED), None),
        (box(-40, 0, 5, 90, FIXED), None), (box(0, -60, 30, 5, FIXED), None), (ball(30, 50, 4, DRIVER), (0, -3)),
        parts=3, pull=(0, -1),
    )

    def test_as_many_single_ones(self):
        for count in (2, 7, 20):
            together = run(*self.calls, (TICK, count), (PLACES,), (MET,))
            one_by_one = run(*self.calls, *[(TICK, 1)] * count, (PLACES,), (MET,))
            self.assertEqual(together[-3:], one_by_one[-3:])

    def test_how_many_met_is_told_of_the_last_one(self):
        calls = world((ball(0, 0, 5, FREE, 1), (4, 0)), (box(12, 0, 5, 9, FIXED), None), (box(-52, 0, 5, 9, FIXED), None))
        self.assertEqual(run(*calls, (TICK, 1), (MET,))[-2:], [[0, 1], [0, 0, 0, 1]])
        self.assertEqual(run(*calls, (TICK, 2), (MET,))[-2:], [[0, 0], [0]])
        self.assertEqual(run(*calls, (TICK, 12), (MET,))[-2:], [[0, 1], [0, 0, 0, 2]])

    def test_how_many_met_is_told_of_all_its_parts(self):
        calls = world(
            (ball(0, 0, 5, FREE, 1), (4, 0)), (box(12, 0, 5, 9, FIXED), None), (box(-12, 0, 5, 9, FIXED), None), parts=5,
        )
        self.assertEqual(run(*calls, (TICK, 1), (MET,))[-2], [0, 5])
        self.assertEqual(after(calls, 2)[1], [(0, 0, 2), (1, 0, 1), (2, 0, 2), (3, 0, 1), (4, 0, 2)])

    def test_the_limit_of_1000(self):
        calls = [(OPEN, 16, 0, 0), ball(0, 0, 1), (AIM, 0, 1, 0)] + [(TICK, 20)] * 50
        found = run(*calls, (TICK, 1), (TICK, 20), (PLACES,))
        self.assertEqual(found[2:], [[0]] + [[0, 0]] * 50 + [[-8], [-8], [0, 16000, 0, 1, 0]])


class Met(unittest.TestCase):
    pair = [(OPEN, 1, 0, 0), ball(0, 0, 5, FREE, 1), ball(12, 0, 5, FIXED), (AIM, 0, 4, 0)]

    def test_none_before_the_first_tick(self):
        self.assertEqual(last((OPEN, 1, 0, 0), (MET,)), [0])
        self.assertEqual(last(*self.pair, (MET,)), [0])

    def test_other_calls_leave_it(self):
        calls = self.pair + [(TICK, 1), ball(50, 50, 1), box(90, 90, 1, 1), (AIM, 0, 1, 1), (PLACES,), (BODY, 0)]
        self.assertEqual(run(*calls, (MET,), (MET,))[-2:], [[0, 0, 0, 1]] * 2)

    def test_the_last_tick_alone(self):
        self.assertEqual(last(*self.pair, (TICK, 1), (TICK, 1), (MET,)), [0])

    def test_the_order(self):
        # In part 0 there are two rounds; then 4, turned round, comes to 3 in part 3.
        calls = world(
            (box(0, 0, 5, 5), (3, 0)), (box(10, 0, 5, 5), (3, 0)), (box(22, 0, 5, 5, FIXED), None),
            (box(50, 70, 5, 5), (0, 0)), (box(50, 40, 5, 5, FREE, 1), (0, -9)), (box(50, 22, 5, 5, FIXED), None), parts=4,
        )
        self.assertEqual(after(calls)[1], [(0, 1, 2), (0, 4, 5), (0, 0, 1), (3, 3, 4)])

    def test_by_parts_though_the_numbers_fall(self):
        calls = world((box(0, 0, 5, 5, FIXED), None), (box(12, 0, 5, 5, FREE, 1), (3, 0)), (box(24, 0, 5, 5, FREE, 1), (-3, 0)), parts=4)
        self.assertEqual(after(calls)[1], [(0, 1, 2), (1, 0, 1)])


if __name__ == "__main__":
    unittest.main()
