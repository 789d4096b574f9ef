"""A part: rounds, who stays and who moves, blocked in x and in y, groups and velocities."""

import unittest

from tests.helper import DRIVER, FIXED, FREE, after, ball, box, world


def crate(x, y, kind=FREE, hard=0):
    """A box of half width and half height 5."""
    return box(x, y, 5, 5, kind, hard)


def pea(x, y, kind=FREE, hard=0):
    """A ball of radius 5."""
    return ball(x, y, 5, kind, hard)


class Parts(unittest.TestCase):
    def check(self, bodies, places, met):
        """Behind one part of these bodies their places and velocities, and who met, are these."""
        self.assertEqual(after(world(*bodies)), (places, [(0, i, j) for i, j in met]))

    def velocities(self, *bodies):
        return [row[2:] for row in after(world(*bodies))[0]]


class Rounds(Parts):
    def test_nobody_meets(self):
        self.check(
            [(crate(0, 0), (3, -4)), (pea(50, 0), (-3, 1)), (crate(0, 50, FIXED), None), (pea(50, 50, DRIVER), (9, 9))],
            [(3, -4, 3, -4), (47, 1, -3, 1), (0, 50, 0, 0), (59, 59, 9, 9)], [],
        )

    def test_those_who_meet_stay_and_the_others_move(self):
        self.check(
            [(crate(0, 0), (4, 0)), (crate(13, 0), (0, 0)), (crate(0, 50), (4, 0))],
            [(0, 0, 0, 0), (13, 0, 0, 0), (4, 50, 4, 0)], [(0, 1)],
        )

    def test_one_who_only_touches_at_the_end_moves(self):
        self.check([(crate(0, 0), (3, 0)), (crate(13, 0), (0, 0))], [(3, 0, 3, 0), (13, 0, 0, 0)], [])

    def test_one_stays_because_another_stays(self):
        # All go alike; the wall stops the third, this the second, this the first.
        row = [(crate(0, 0), (3, 0)), (crate(10, 0), (3, 0)), (crate(20, 0), (3, 0)), (crate(32, 0, FIXED), None)]
        self.check(
            row, [(0, 0, 0, 0), (10, 0, 0, 0), (20, 0, 0, 0), (32, 0, 0, 0)], [(2, 3), (1, 2), (0, 1)],
        )

    def test_one_who_has_room_behind_one_who_stays_moves(self):
        self.check(
            [(crate(0, 0), (3, 0)), (crate(13, 0), (3, 0)), (crate(25, 0, FIXED), None)],
            [(3, 0, 3, 0), (13, 0, 0, 0), (25, 0, 0, 0)], [(1, 2)],
        )
        self.check(
            [(crate(0, 0), (4, 0)), (crate(13, 0), (4, 0)), (crate(25, 0, FIXED), None)],
            [(0, 0, 0, 0), (13, 0, 0, 0), (25, 0, 0, 0)], [(1, 2), (0, 1)],
        )

    def test_one_who_would_have_made_way_stays_and_is_met(self):
        bodies = [(crate(0, 0), (8, 0)), (crate(16, 0), (0, 40)), (crate(16, 20, FIXED), None)]
        self.check(bodies[:2], [(8, 0, 8, 0), (16, 40, 0, 40)], [])
        self.check(bodies, [(0, 0, 0, 0), (16, 0, 0, 0), (16, 20, 0, 0)], [(1, 2), (0, 1)])

    def test_two_pairs_of_one_round_stand_by_lesser_then_greater_number(self):
        bodies = [
            (crate(12, 0), (0, 0)), (crate(100, 0, FIXED), None), (crate(0, 0), (3, 0)), (crate(24, 0), (-3, 0)),
            (crate(88, 0), (3, 0)),
        ]
        self.assertEqual(after(world(*bodies))[1], [(0, 0, 2), (0, 0, 3), (0, 1, 4)])

    def test_a_later_round_stands_behind_though_its_numbers_are_less(self):
        bodies = [(crate(0, 0), (3, 0)), (crate(10, 0), (3, 0)), (crate(22, 0), (0, 0)), (crate(50, 0), (5, 0)), (crate(62, 0), (0, 0))]
        self.assertEqual(after(world(*bodies))[1], [(0, 1, 2), (0, 3, 4), (0, 0, 1)])

    def test_a_row_of_twenty_in_rounds(self):
        row = [(crate(10 * k, 0), (1, 0)) for k in range(19)] + [(crate(190, 0, FIXED), None)]
        places, met = after(world(*row))
        self.assertEqual(met, [(0, k, k + 1) for k in reversed(range(19))])
        self.assertEqual(places, [(10 * k, 0, 0, 0) for k in range(20)])

    def test_fixed_ones_that_touch_do_not_meet(self):
        self.check([(crate(0, 0, FIXED), None), (crate(10, 0, FIXED), None)], [(0, 0, 0, 0), (10, 0, 0, 0)], [])


class Blocked(Parts):
    """What a wall leaves of a velocity tells where the pair was blocked."""

    def test_in_x_alone(self):
        self.check([(crate(0, 0), (4, 1)), (crate(12, 0, FIXED), None)], [(0, 0, 0, 1), (12, 0, 0, 0)], [(0, 1)])
        self.check([(crate(0, 0, FREE, 1), (4, 1)), (crate(12, 0, FIXED), None)], [(0, 0, -4, 1), (12, 0, 0, 0)], [(0, 1)])
        self.check([(pea(0, 0), (4, 1)), (pea(12, 0, FIXED), None)], [(0, 0, 0, 1), (12, 0, 0, 0)], [(0, 1)])

    def test_in_y_alone(self):
        self.check([(crate(0, 0), (1, -4)), (crate(0, -12, FIXED), None)], [(0, 0, 1, 0), (0, -12, 0, 0)], [(0, 1)])
        self.check([(crate(0, 0, FREE, 1), (1, -4)), (pea(0, -12, FIXED), None)], [(0, 0, 1, 4), (0, -12, 0, 0)], [(0, 1)])

    def test_in_both(self):
        # From 8, 7 two balls come nearer than 10 by 3 in x alone, and by 3 in y alone.
        self.check([(pea(0, 0, FREE, 1), (3, 3)), (pea(8, 7, FIXED), None)], [(0, 0, -3, -3), (8, 7, 0, 0)], [(0, 1)])
        self.check([(pea(0, 0), (3, 3)), (pea(8, 7, FIXED), None)], [(0, 0, 0, 0), (8, 7, 0, 0)], [(0, 1)])
        self.check([(pea(0, 0), (3, 3)), (crate(9, 9, FIXED), None)], [(0, 0, 0, 0), (9, 9, 0, 0)], [(0, 1)])

    def test_in_x_alone_at_a_slant(self):
        # By 1 in y alone the balls come to 8, 6, which is touching.
        self.check([(pea(0, 0, FREE, 1), (3, 1)), (pea(8, 7, FIXED), None)], [(0, 0, -3, 1), (8, 7, 0, 0)], [(0, 1)])
        self.check([(pea(0, 0, FREE, 1), (3, 2)), (pea(8, 7, FIXED), None)], [(0, 0, -3, -2), (8, 7, 0, 0)], [(0, 1)])

    def test_in_neither_is_in_both(self):
        self.check([(crate(0, 0, FREE, 1), (3, 4)), (crate(12, 12, FIXED), None)], [(0, 0, -3, -4), (12, 12, 0, 0)], [(0, 1)])
        self.check([(crate(0, 0), (3, 4)), (crate(12, 12, FIXED), None)], [(0, 0, 0, 0), (12, 12, 0, 0)], [(0, 1)])
        self.check([(pea(0, 0, FREE, 1), (5, 6)), (pea(10, 10, FIXED), None)], [(0, 0, -5, -6), (10, 10, 0, 0)], [(0, 1)])

    def test_by_the_velocities_of_both(self):
        # In x the second comes to the first, in y the first to the second; each is blocked where they near one another.
        self.check(
            [(crate(0, 0, FREE, 1), (1, 2)), (crate(12, 0, FREE, 1), (-3, 2))],
            [(0, 0, -3, 2), (12, 0, 1, 2)], [(0, 1)],
        )
        self.check(
            [(crate(0, 0, FREE, 1), (2, 5)), (crate(0, 12, FREE, 1), (9, 1))],
            [(0, 0, 2, 1), (0, 12, 9, 5)], [(0, 1)],
        )

    def test_by_the_velocities_at_the_beginning_of_one_who_stays(self):
        # The wall stops the second. If the first goes faster they are blocked in x alone; else in neither, so in both.
        for x, speed, met, expected in (
            (0, 4, [(0, 1), (1, 2)], [(0, 7), (0, 6)]),
            (-1, 4, [(1, 2), (0, 1)], [(0, 0), (0, 0)]),
            (0, 3, [(1, 2), (0, 1)], [(0, 0), (0, 0)]),
            (0, 2, [(1, 2), (0, 1)], [(0, 0), (0, 0)]),
        ):
            bodies = [(crate(x, 0), (speed, 7)), (crate(10, 0), (3, 6)), (crate(22, 0, FIXED), None)]
            places = [(x, 0) + expected[0], (10, 0) + expected[1], (22, 0, 0, 0)]
            self.check(bodies, places, met)


class Groups(Parts):
    def test_one_at_a_fixed_one(self):
        for kind in (FREE, DRIVER):
            for hard, expected in ((1, (-4, 0)), (0, (0, 0))):
                for wall_hard in (0, 1):
                    found = self.velocities((crate(0, 0, kind, hard), (4, 0)), (crate(12, 0, FIXED, wall_hard), None))
                    self.assertEqual(found, [expected, (0, 0)])

    def test_one_at_two_fixed_ones_is_still_alone(self):
        walls = [(crate(12, 6, FIXED), None), (crate(12, -6, FIXED), None)]
        self.assertEqual(self.velocities((crate(0, 0, FREE, 1), (4, 0)), *walls)[0], (-4, 0))
        self.assertEqual(self.velocities((crate(0, 0), (4, 0)), *walls)[0], (0, 0))

    def test_one_at_fixed_ones_in_x_and_in_y(self):
        walls = [(box(20, 0, 5, 50, FIXED), None), (box(0, -20, 14, 5, FIXED), None)]
        self.assertEqual(self.velocities((crate(5, -5, FREE, 1), (40, -50)), *walls)[0], (-40, 50))

    def test_two_of_which_one_is_at_a_fixed_one(self):
        for hards in ((0, 0), (0, 1), (1, 0), (1, 1)):
            for kinds in ((FREE, FREE), (DRIVER, FREE), (FREE, DRIVER), (DRIVER, DRIVER)):
                found = self.velocities(
                    (crate(0, 0, kinds[0], hards[0]), (9, 1)), (crate(12, 0, kinds[1], hards[1]), (4, 1)),
                    (crate(24, 0, FIXED), None),
                )
                self.assertEqual(found, [(0, 1), (0, 1), (0, 0)])

    def test_two_free_ones(self):
        for hards, expected in (
            ((1, 1), [(-3, 1), (4, 2)]), ((0, 1), [(0, 1), (0, 2)]), ((1, 0), [(0, 1), (0, 2)]), ((0, 0), [(0, 1), (0, 2)]),
        ):
            found = self.velocities((crate(0, 0, FREE, hards[0]), (4, 1)), (crate(12, 0, FREE, hards[1]), (-3, 2)))
            self.assertEqual(found, expected)

    def test_two_hard_ones_at_a_slant_swap_both(self):
        found = self.velocities((crate(0, 0, FREE, 1), (4, 5)), (crate(12, 12, FREE, 1), (-2, -1)))
        self.assertEqual(found, [(-2, -1), (4, 5)])

    def test_one_driver_and_a_free_one(self):
        for hards in ((0, 0), (0, 1), (1, 0), (1, 1)):
            found = self.velocities((crate(0, 0, DRIVER, hards[0]), (4, 1)), (crate(12, 0, FREE, hards[1]), (-3, 2)))
            self.assertEqual(found, [(4, 1), (4, 2)])
            found = self.velocities((crate(0, 0, FREE, hards[0]), (4, 1)), (crate(12, 0, DRIVER, hards[1]), (-3, 2)))
            self.assertEqual(found, [(-3, 1), (-3, 2)])

    def test_a_driver_that_rests(self):
        found = self.velocities((crate(0, 0, FREE, 1), (4, 1)), (crate(12, 0, DRIVER, 1), (0, 0)))
        self.assertEqual(found, [(0, 1), (0, 0)])

    def test_two_drivers(self):
        for hards in ((0, 0), (0, 1), (1, 0)):
            found = self.velocities((crate(0, 0, DRIVER, hards[0]), (4, 1)), (crate(12, 0, DRIVER, hards[1]), (-3, 2)))
            self.assertEqual(found, [(0, 1), (0, 2)])
        found = self.velocities((crate(0, 0, DRIVER, 1), (4, 1)), (crate(12, 0, DRIVER, 1), (-3, 2)))
        self.assertEqual(found, [(-3, 1), (4, 2)])

    def three(self, kinds, hards):
        """Left and right one come to the middle one, which slowly goes to the right."""
        return self.velocities(
            (crate(0, 0, kinds[0], hards[0]), (9, 1)), (crate(12, 0, kinds[1], hards[1]), (2, 2)),
            (crate(24, 0, kinds[2], hards[2]), (-8, 3)),
        )

    def test_three_free_ones(self):
        for hards in ((0, 0, 0), (1, 1, 1), (1, 1, 0), (0, 1, 1)):
            self.assertEqual(self.three((FREE, FREE, FREE), hards), [(0, 1), (0, 2), (0, 3)])

    def test_three_with_one_driver(self):
        for hards in ((0, 0, 0), (1, 1, 1)):
            self.assertEqual(self.three((DRIVER, FREE, FREE), hards), [(9, 1), (9, 2), (9, 3)])
            self.assertEqual(self.three((FREE, DRIVER, FREE), hards), [(2, 1), (2, 2), (2, 3)])
            self.assertEqual(self.three((FREE, FREE, DRIVER), hards), [(-8, 1), (-8, 2), (-8, 3)])

    def test_three_with_two_or_three_drivers(self):
        for hards in ((0, 0, 0), (1, 1, 1)):
            for kinds in ((DRIVER, DRIVER, FREE), (DRIVER, FREE, DRIVER), (FREE, DRIVER, DRIVER), (DRIVER, DRIVER, DRIVER)):
                self.assertEqual(self.three(kinds, hards), [(0, 1), (0, 2), (0, 3)])

    def test_a_fixed_one_does_not_hang_two_groups_together(self):
        found = self.velocities((crate(0, 0, FREE, 1), (4, 0)), (crate(12, 0, FIXED), None), (crate(24, 0, FREE, 1), (-6, 0)))
        self.assertEqual(found, [(-4, 0), (0, 0), (6, 0)])

    def test_one_between_two_fixed_and_free(self):
        found = self.velocities((crate(0, 0, FREE, 1), (4, 0)), (crate(12, 0, FIXED), None), (crate(-12, 0, FREE, 1), (20, 0)))
        self.assertEqual(found, [(0, 0), (0, 0), (0, 0)])

    def test_groups_that_are_not_joined_by_meeting_pairs_are_their_own(self):
        found = self.velocities(
            (crate(0, 0, FREE, 1), (4, 0)), (crate(12, 0, FREE, 1), (-3, 0)),
            (crate(0, 50, DRIVER), (4, 0)), (crate(12, 50), (-3, 0)),
            (crate(0, 99), (4, 0)), (crate(12, 99), (-3, 0)),
        )
        self.assertEqual(found, [(-3, 0), (4, 0), (4, 0), (4, 0), (0, 0), (0, 0)])

    def test_two_groups_that_a_later_round_joins(self):
        # In two lanes two meet; behind both comes a driver, whose pairs are blocked in neither direction, so in both.
        bodies = [
            (crate(20, 6), (5, 0)), (crate(32, 6), (-5, 0)), (crate(20, -6), (5, 0)), (crate(32, -6), (-5, 0)),
            (crate(8, 0, DRIVER), (4, 1)),
        ]
        places, met = after(world(*bodies))
        self.assertEqual(met, [(0, 0, 1), (0, 2, 3), (0, 0, 4), (0, 2, 4)])
        self.assertEqual([row[2:] for row in places], [(4, 1), (4, 0), (4, 1), (4, 0), (4, 1)])

    def test_each_direction_has_groups_of_its_own(self):
        # In x the first is pushed by the driver at its left; in y it falls on the fixed one below.
        found = after(world((crate(0, 0, FREE, 1), (0, -4)), (crate(-12, 0, DRIVER), (3, 0)), (box(0, -12, 5, 5, FIXED), None)))
        self.assertEqual(found[1], [(0, 0, 1), (0, 0, 2)])
        self.assertEqual(found[0], [(0, 0, 3, 4), (-12, 0, 3, 0), (0, -12, 0, 0)])

    def test_hard_in_one_direction_and_held_in_the_other(self):
        # 1 and 2 go alike, so that their pair is blocked in both; only in x is 2 at the wall.
        found = after(world((crate(22, 0, FIXED), None), (crate(0, 0, FREE, 1), (3, 7)), (crate(10, 0, FREE, 1), (3, 6))))
        self.assertEqual(found[1], [(0, 0, 2), (0, 1, 2)])
        self.assertEqual(found[0], [(22, 0, 0, 0), (0, 0, 0, 6), (10, 0, 0, 7)])

    def test_one_whose_pairs_are_blocked_elsewhere_keeps_its_velocity(self):
        found = self.velocities((crate(0, 0, FREE, 1), (4, 6)), (crate(12, 0, FREE, 1), (0, 0)))
        self.assertEqual(found, [(0, 6), (4, 0)])


if __name__ == "__main__":
    unittest.main()
