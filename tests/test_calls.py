"""All calls: their form, their ranges, their refusals, promise 5; and the ordinary answers of the calls 0 to 7."""

import unittest

from meetingbodies.world import answers
from tests.helper import (
    AIM, BALL, BODY, BOX, DRIVER, DROP, FIXED, FREE, HUGE, MET, OPEN, ORDER, PLACES, RAY, RENUMBER, ROOM, SUMS, TICK, TOTALS,
    WOULD, ball, box, flatten, full_world, last, renumber, run,
)

PLACE = (-1000000, 1000000)
SIZE = (1, 100000)
FLAG = (0, 1)
RANGES = {
    OPEN: [(1, 16), (-100, 100), (-100, 100)],
    BOX: [PLACE, PLACE, SIZE, SIZE, (0, 2), FLAG, FLAG],
    BALL: [PLACE, PLACE, SIZE, (0, 2), FLAG, FLAG],
    AIM: [(0, 19), (-1000, 1000), (-1000, 1000)],
    TICK: [(1, 20)],
    BODY: [(0, 19)],
    WOULD: [(0, 19), PLACE, PLACE],
    ROOM: [PLACE, PLACE, SIZE, SIZE],
    RAY: [PLACE] * 4,
    DROP: [(0, 19)],
    ORDER: [PLACE] * 4,
}
ORDINARY = {
    OPEN: (2, 0, 0), BOX: (0, 500000, 3, 4, 1, 0, 0), BALL: (0, 500000, 3, 1, 0, 0), AIM: (0, 5, 6), TICK: (1,), BODY: (0,),
    WOULD: (0, 5, 6), ROOM: (0, 500000, 3, 4), RAY: (0, 0, 5, 6), DROP: (0,), ORDER: (0, 0, 5, 6),
}


def ground_for(call):
    """Calls ahead of an ordinary one, behind which each number of its ranges is answered with 0."""
    if call == OPEN:
        return []
    if call in (BOX, BALL):
        return [(OPEN, 2, 0, 0)]
    return full_world()


class Form(unittest.TestCase):
    def test_each_answer_has_its_count_ahead(self):
        calls = [
            0, 3, 4, -5, 1, 10, 20, 3, 4, 1, 1, 0, 2, -10, -20, 6, 2, 0, 1, 3, 0, 7, -8, 4, 1, 5, 0, 5, 1, 6, 7, 5, 2,
        ]
        expected = [
            1, 0, 2, 0, 0, 2, 0, 1, 1, 0, 2, 0, 0, 11, 0, 1, 1, 0, 0, 3, 4, 31, -4, 7, -8,
            11, 0, 2, 0, 1, 1, 6, 6, -10, -20, 0, 0, 9, 0, 31, -4, 7, -8, -10, -20, 0, 0, 1, 0, 1, -3,
        ]
        self.assertEqual(answers(calls), expected)

    def test_met_has_three_numbers_a_pair(self):
        calls = flatten([(OPEN, 1, 0, 0), ball(0, 0, 1), ball(3, 0, 1), (AIM, 0, 2, 0), (TICK, 1), (MET,)])
        self.assertEqual(answers(calls), [1, 0, 2, 0, 0, 2, 0, 1, 1, 0, 2, 0, 1, 4, 0, 0, 0, 1])

    def test_the_form_of_the_calls_8_to_15(self):
        calls = [0, 3, 4, -5, 1, 10, 0, 2, 2, 1, 0, 0, 2, 20, 0, 2, 1, 0, 0, 3, 0, 7, -1, 3, 1, -2, 0]
        answered = [1, 0, 2, 0, 0, 2, 0, 1, 1, 0, 1, 0]
        for call, answer in (
            ([8, 0, 9, 0], [2, 0, 1]), ([8, 0, 0, 9], [1, 0]), ([9, 15, 0, 4, 1], [3, 0, 0, 1]), ([9, 15, 0, 3, 1], [1, 0]),
            ([10, 0, 0, 40, 0], [5, 0, 0, 200, 1, 450]), ([10, 0, 0, 0, 40], [1, 0]), ([11, 0], [1, 0]),
            ([12, 2, 1, 0], [1, 0]), ([12, 0], [1, -5]), ([12, 1, 99], [1, -1]), ([13], [4, 0, 5, -1, 54]),
            ([14], [6, 0, 3, 4, -5, 2, 0]), ([15, 0, 0, 40, 0], [9, 0, 0, 40, 8, 0, 1, 1600, 800, 6400]),
            ([15, 0, 0, 0, 40], [1, 0]),
        ):
            with self.subTest(call=call):
                # Behind it another call is found where it begins.
                self.assertEqual(answers(calls + call + [5, 9]), answered + answer + [1, -3])

    def test_a_refusal_is_one_number(self):
        self.assertEqual(answers([TICK, 0]), [1, -1])
        self.assertEqual(answers([PLACES]), [1, -2])
        self.assertEqual(answers([WOULD, 20, 0, 0, ORDER, 0, 0, 1, 0, RENUMBER, 3, 0, -1, 2]), [1, -1, 1, -2, 1, -1])

    def test_what_is_handed_in_is_never_changed(self):
        class Watched(list):
            def refuse(self, *args, **kwargs):
                raise AssertionError("the list is changed")

            append = clear = extend = insert = pop = remove = reverse = sort = refuse
            __setitem__ = __delitem__ = __iadd__ = __imul__ = refuse

        calls = flatten(full_world() + [
            (AIM, 0, 9, 0), (TICK, 2), box(0, 0, 0, 1), (PLACES,), (MET,), (BODY, 3), (WOULD, 3, 50, 5),
            (ROOM, 0, -900000, 50, 50), (RAY, 0, 0, 0, -1000000), (ORDER, 0, 0, 0, -1000000), renumber(*range(19, -1, -1)),
            (DROP, 4), renumber(*range(20)), renumber(3, 2, 1, 0), (SUMS,), (TOTALS,),
        ])
        before = list(calls)
        expected = answers(calls)
        self.assertEqual(calls, before)
        watched = Watched(calls)
        self.assertEqual(answers(watched), expected)
        self.assertEqual(list(watched), before)

    def test_nothing_is_kept_from_one_time_to_the_next(self):
        one = flatten(full_world() + [(AIM, 0, 9, 0), (TICK, 20), (PLACES,), (MET,)])
        other = flatten([(PLACES,), (OPEN, 4, 1, 1), (MET,), ball(0, 0, 1, FREE, 0, 1), (TICK, 1), (PLACES,)])
        first = answers(one)
        self.assertEqual(answers(other), [1, -2, 1, 0, 1, 0, 2, 0, 0, 2, 0, 0, 5, 0, 4, 4, 1, 1])
        self.assertEqual(answers(one), first)
        first.append(7)
        self.assertEqual(answers(one), first[:-1])

    def test_answers_are_plain_whole_numbers(self):
        found = answers(flatten(full_world() + [box(500000, 0, 9, 9)] + [
            (AIM, 0, 9, 0), (TICK, 1), (PLACES,), (MET,), (BODY, 0), (BODY, 99), (DROP, 5), box(500000, 0, 9, 9),
            (WOULD, 3, 50, 5), (ROOM, 0, -900000, 50, 50), (RAY, 0, -900000, 1000000, 900000), (SUMS,), (TOTALS,),
            (RAY, 0, 0, 1000000, 0), (ORDER, 0, 0, 1000000, 0), (ORDER, 0, 0, 0, -1000000), renumber(*range(20)),
        ]))
        self.assertIs(type(found), list)
        self.assertEqual({type(number) for number in found}, {int})

    def test_a_hundred_calls(self):
        self.assertEqual(run((OPEN, 1, 0, 0), *[(TICK, 1)] * 98, (PLACES,)), [[0]] + [[0, 0]] * 98 + [[0]])


class Ordinary(unittest.TestCase):
    def test_open(self):
        self.assertEqual(run((OPEN, 1, 0, 0)), [[0]])

    def test_numbers_in_the_order_of_putting_in(self):
        shapes = [ball(10 * k, 0, 2) if k % 2 else box(10 * k, 0, 2, 3) for k in range(20)]
        self.assertEqual(run((OPEN, 1, 0, 0), *shapes)[1:], [[0, k] for k in range(20)])

    def test_body_tells_a_box(self):
        for kind in (FIXED, FREE, DRIVER):
            for hard in FLAG:
                for heavy in FLAG:
                    found = last((OPEN, 1, 9, 9), box(7, -8, 3, 4, kind, hard, heavy), (BODY, 0))
                    self.assertEqual(found, [0, kind, hard, heavy, 0, 3, 4, 7, -8, 0, 0])

    def test_body_tells_a_ball(self):
        for kind in (FIXED, FREE, DRIVER):
            for hard in FLAG:
                for heavy in FLAG:
                    found = last((OPEN, 1, 9, 9), ball(7, -8, 3, kind, hard, heavy), (BODY, 0))
                    self.assertEqual(found, [0, kind, hard, heavy, 1, 3, 3, 7, -8, 0, 0])

    def test_aim_sets_the_velocity_anew(self):
        calls = [(OPEN, 1, 0, 0), ball(0, 0, 1), ball(9, 9, 1, DRIVER), (AIM, 1, 3, -4), (AIM, 0, 1, 2), (AIM, 1, -5, 6)]
        self.assertEqual(last(*calls, (PLACES,)), [0, 0, 0, 1, 2, 9, 9, -5, 6])
        self.assertEqual(last(*calls, (BODY, 1))[-4:], [9, 9, -5, 6])

    def test_tick_moves(self):
        calls = [(OPEN, 3, 0, 0), ball(0, 0, 1), (AIM, 0, 5, -7)]
        self.assertEqual(run(*calls, (TICK, 1), (PLACES,))[-2:], [[0, 0], [0, 15, -21, 5, -7]])
        self.assertEqual(run(*calls, (TICK, 20), (PLACES,))[-2:], [[0, 0], [0, 300, -420, 5, -7]])

    def test_places_and_met_of_an_empty_world(self):
        self.assertEqual(run((OPEN, 1, 0, 0), (PLACES,), (MET,), (TICK, 3), (MET,))[1:], [[0], [0], [0, 0], [0]])

    def test_a_body_may_leave_the_range_of_places(self):
        calls = [(OPEN, 16, 0, 0), ball(1000000, -1000000, 1), (AIM, 0, 1000, -1000)] + [(TICK, 20)] * 50
        self.assertEqual(last(*calls, (PLACES,)), [0, 17000000, -17000000, 1000, -1000])


def longest_list(number, at, length=20):
    """A list of numbers that are all in their range but for one."""
    numbers = list(range(length))
    numbers[at] = number
    return renumber(*numbers)


class Ranges(unittest.TestCase):
    def ask(self, call, at, number):
        numbers = list(ORDINARY[call])
        numbers[at] = number
        return last(*ground_for(call), (call, *numbers))

    def test_each_number_at_its_limits(self):
        for call, ranges in RANGES.items():
            self.assertEqual(len(ranges), len(ORDINARY[call]))
            for at, (least, greatest) in enumerate(ranges):
                for number in (least, greatest, least + 1, greatest - 1):
                    with self.subTest(call=call, at=at, number=number):
                        self.assertEqual(self.ask(call, at, number)[0], 0)

    def test_each_number_beyond_its_limits(self):
        for call, ranges in RANGES.items():
            for at, (least, greatest) in enumerate(ranges):
                for number in (least - 1, greatest + 1, -HUGE, HUGE, 1 - HUGE, HUGE - 1, -2 ** 32, 2 ** 32):
                    with self.subTest(call=call, at=at, number=number):
                        self.assertEqual(self.ask(call, at, number), [-1])

    def test_each_number_of_a_list(self):
        for at in (0, 1, 10, 18, 19):
            for number in (-1, 20, -HUGE, HUGE, 1 - HUGE, HUGE - 1, -2 ** 32, 2 ** 32):
                with self.subTest(at=at, number=number):
                    self.assertEqual(last(*full_world(), longest_list(number, at)), [-1])
            for number in (0, 1, 18, 19):
                with self.subTest(at=at, number=number):
                    self.assertEqual(last(*full_world(), longest_list(number, at)), [0 if number == at else -5])

    def test_each_length_of_a_list(self):
        for length in range(31):
            expected = 0 if length == 20 else -5 if length < 20 else -1
            with self.subTest(length=length):
                self.assertEqual(last(*full_world(), renumber(*[k % 20 for k in range(length)])), [expected])
        for length in range(21, 31):
            self.assertEqual(last((OPEN, 1, 0, 0), renumber(*[0] * length)), [-1])
        self.assertEqual(last((OPEN, 1, 0, 0), renumber(*[0] * 20)), [-5])


class Refusals(unittest.TestCase):
    def test_nothing_is_open(self):
        for call in ORDINARY:
            if call != OPEN:
                self.assertEqual(run((call, *ORDINARY[call])), [[-2]])
        self.assertEqual(run((PLACES,), (MET,), (SUMS,)), [[-2], [-2], [-2]])
        self.assertEqual(run(renumber(), renumber(0), renumber(*range(20))), [[-2], [-2], [-2]])
        self.assertEqual(run((TOTALS,)), [[0, 0, 0, 0, 0, 0]])

    def test_a_refused_open_opens_nothing(self):
        self.assertEqual(run((OPEN, 17, 0, 0), (PLACES,), (OPEN, 16, 0, 0), (PLACES,)), [[-1], [-2], [0], [0]])

    def test_there_is_no_such_body(self):
        calls = [(OPEN, 1, 0, 0), ball(0, 0, 1), ball(9, 0, 1)]
        for number, found in ((0, 0), (1, 0), (2, -3), (19, -3), (20, -1)):
            self.assertEqual(last(*calls, (AIM, number, 0, 0)), [found])
            self.assertEqual(last(*calls, (BODY, number))[0], found)
            self.assertEqual(last(*calls, (WOULD, number, 0, 0)), [found])
            self.assertEqual(last(*calls, (DROP, number)), [found])
        found = run((OPEN, 1, 0, 0), (AIM, 0, 0, 0), (BODY, 0), (WOULD, 0, 0, 0), (DROP, 0))
        self.assertEqual(found[1:], [[-3]] * 4)

    def test_the_list_is_not_all_the_numbers(self):
        calls = [(OPEN, 1, 0, 0), ball(0, 0, 1), ball(9, 0, 1), ball(18, 0, 1)]
        for numbers in (
            (), (0,), (0, 1), (1, 2), (0, 1, 2, 3), (0, 1, 2, 0), (0, 0, 0), (0, 0, 1), (0, 1, 1), (2, 2, 1), (0, 1, 3),
            (1, 2, 3), (19, 1, 2), (0, 1, 19), (0, 2, 2), range(20), [0] * 20,
        ):
            with self.subTest(numbers=numbers):
                self.assertEqual(last(*calls, renumber(*numbers)), [-5])
        self.assertEqual(last((OPEN, 1, 0, 0), renumber(0)), [-5])

    def test_there_are_20_bodies(self):
        found = run(*full_world(), ball(0, 0, 1), box(0, 0, 1, 1), (PLACES,))
        self.assertEqual(found[20], [0, 19])
        self.assertEqual(found[21:23], [[-4], [-4]])
        self.assertEqual(len(found[23]), 81)

    def test_something_is_open_already(self):
        calls = [(OPEN, 2, 3, 4), (OPEN, 2, 3, 4), (OPEN, 5, 0, 0), ball(0, 0, 1, FREE, 0, 1), (TICK, 1), (PLACES,)]
        self.assertEqual(run(*calls), [[0], [-5], [-5], [0, 0], [0, 0], [0, 6, 8, 3, 4]])

    def test_the_shape_would_be_within_some_body(self):
        for kind in (FIXED, FREE, DRIVER):
            calls = [(OPEN, 1, 0, 0), box(50, 0, 3, 3), box(0, 0, 3, 3, kind)]
            self.assertEqual(last(*calls, box(0, 0, 1, 1)), [-6])
            self.assertEqual(last(*calls, box(0, 0, 100, 100)), [-6])
            self.assertEqual(last(*calls, ball(0, 0, 1)), [-6])
            self.assertEqual(last(*calls, ball(50, 0, 9)), [-6])
            self.assertEqual(last(*calls, ball(25, 0, 9)), [0, 2])

    def test_room_is_where_bodies_are_now(self):
        calls = [(OPEN, 1, 0, 0), ball(0, 0, 3), (AIM, 0, 20, 0), (TICK, 1)]
        self.assertEqual(last(*calls, ball(20, 0, 3)), [-6])
        self.assertEqual(last(*calls, ball(0, 0, 3)), [0, 1])

    def test_the_body_is_fixed(self):
        calls = [(OPEN, 1, 0, 0), ball(0, 0, 1, FIXED, 1, 1), box(9, 0, 1, 1, FIXED), ball(30, 0, 1, DRIVER)]
        self.assertEqual(last(*calls, (AIM, 0, 0, 0)), [-7])
        self.assertEqual(last(*calls, (AIM, 1, 5, 5)), [-7])
        self.assertEqual(last(*calls, (AIM, 2, 5, 5)), [0])

    def test_more_than_1000_ticks(self):
        calls = [(OPEN, 1, 0, 0), ball(0, 0, 1), (AIM, 0, 1, 0)] + [(TICK, 20)] * 49
        self.assertEqual(last(*calls, (TICK, 20)), [0, 0])
        self.assertEqual(last(*calls, (TICK, 20), (TICK, 1)), [-8])
        found = run(*calls, (TICK, 19), (TICK, 2), (TICK, 20), (TICK, 1), (TICK, 1), (PLACES,))
        self.assertEqual(found[-6:], [[0, 0], [-8], [-8], [0, 0], [-8], [0, 1000, 0, 1, 0]])


class SeveralAreDue(unittest.TestCase):
    """The one nearest to 0 is answered."""

    def test_a_bad_number_goes_ahead_of_nothing_open(self):
        for call, ranges in RANGES.items():
            for at, (least, greatest) in enumerate(ranges):
                for number in (least - 1, greatest + 1):
                    numbers = ORDINARY[call][:at] + (number,) + ORDINARY[call][at + 1:]
                    self.assertEqual(run((call, *numbers)), [[-1]])
        self.assertEqual(run(renumber(20), renumber(-1), renumber(0, 1, HUGE), renumber(*[0] * 21)), [[-1]] * 4)

    def test_a_bad_number_goes_ahead_of_all_else(self):
        calls = full_world(FIXED) + [(TICK, 20)] * 50
        self.assertEqual(last(*calls, (OPEN, 0, 0, 0)), [-1])
        self.assertEqual(last(*calls, box(0, -900000, 1, 0)), [-1])
        self.assertEqual(last(*calls, ball(0, -900000, 1, 3)), [-1])
        self.assertEqual(last(*calls, (AIM, 0, 1001, 0)), [-1])
        self.assertEqual(last(*calls, (TICK, 21)), [-1])
        self.assertEqual(last((OPEN, 1, 0, 0), (AIM, 5, 0, -1001)), [-1])
        self.assertEqual(last((OPEN, 1, 0, 0), (WOULD, 5, 0, -1000001)), [-1])
        self.assertEqual(last((OPEN, 1, 0, 0), (WOULD, 5, 1000001, 0)), [-1])
        self.assertEqual(last(*calls, renumber(0, 0, 20)), [-1])
        self.assertEqual(last(*calls, renumber(-1)), [-1])

    def test_nothing_open_goes_ahead_of_no_such_body(self):
        self.assertEqual(run((AIM, 19, 0, 0), (BODY, 19), (WOULD, 19, 0, 0), (DROP, 19)), [[-2]] * 4)

    def test_no_such_body_goes_ahead_of_a_fixed_one(self):
        self.assertEqual(run((OPEN, 1, 0, 0), ball(0, 0, 1, FIXED), (AIM, 1, 0, 0), (AIM, 0, 0, 0))[2:], [[-3], [-7]])

    def test_20_bodies_goes_ahead_of_no_room(self):
        self.assertEqual(run(*full_world(), ball(0, -900000, 1), box(0, -900000, 1, 1))[-2:], [[-4], [-4]])


REFUSED = [
    (OPEN, 0, 0, 0), (OPEN, 3, 7, 7), box(HUGE, 0, 1, 1), box(0, 0, 1, 1), ball(0, 0, 0), ball(0, 0, 5), (AIM, 0, 1001, 0),
    (AIM, 2, 5, 5), (AIM, 9, 5, 5), (AIM, 20, 5, 5), (TICK, 0), (TICK, 21), (TICK, -HUGE), (BODY, 9), (BODY, -1),
    (WOULD, 3, 5, 5), (WOULD, -1, 5, 5), (WOULD, 0, 1000001, 5), (ROOM, 0, 0, 0, 1), (ROOM, 0, 0, 1, 100001),
    (RAY, 0, 0, 0, HUGE), (RAY, -1000001, 0, 0, 0), (ORDER, 0, 0, 0, HUGE), (ORDER, 0, 1000001, 0, 0), (DROP, 3), (DROP, 20),
    (DROP, -HUGE), renumber(), renumber(0, 1), renumber(2, 1, 0, 3), renumber(2, 1, 1), renumber(2, 1, 3), renumber(2, 1, 20),
    renumber(2, 1, -1), renumber(2, 1, 0, 20), renumber(*[2, 1, 0] * 7), renumber(*[2, 1, 0] * 10),
]


class Promise5(unittest.TestCase):
    """A refused call changes nothing."""

    base = [
        (OPEN, 2, 1, -2), ball(0, 0, 5, FREE, 1, 1), box(15, 0, 6, 6, DRIVER), box(0, -40, 30, 5, FIXED),
        (AIM, 0, 9, 1), (AIM, 1, -3, 0), (TICK, 1),
    ]
    look = [
        (PLACES,), (MET,), (BODY, 0), (BODY, 1), (BODY, 2), (BODY, 3), (TOTALS,), (SUMS,), (WOULD, 0, 90, -90),
        (ROOM, 0, 0, 100, 100), (ORDER, 0, -90, 0, 200),
    ]

    def test_all_looks_the_same_behind_a_refused_call(self):
        expected = run(*self.base, *self.look)[len(self.base):]
        self.assertGreater(len(expected[1]), 1)
        self.assertEqual(expected[6], [0, 2, 1, -2, 3, 1])
        for call in REFUSED:
            found = run(*self.base, call, *self.look)[len(self.base):]
            with self.subTest(call=call):
                self.assertEqual(len(found[0]), 1)
                self.assertLess(found[0][0], 0)
                self.assertEqual(found[1:], expected)

    def test_all_goes_on_the_same_behind_a_refused_call(self):
        go = [ball(90, 90, 2), (AIM, 3, -20, -20), (TICK, 7), *self.look]
        expected = run(*self.base, *go)[len(self.base):]
        for call in REFUSED:
            with self.subTest(call=call):
                self.assertEqual(run(*self.base, call, *go)[len(self.base) + 1:], expected)

    def test_refused_calls_ahead_of_open_change_nothing(self):
        ahead = [
            (OPEN, 0, 5, 5), (OPEN, 5, 101, 5), box(0, 0, 1, 1), ball(0, 0, 1), (AIM, 0, 1, 1), (TICK, 5), (PLACES,),
            (DROP, 0), renumber(), renumber(0), (WOULD, 0, 1, 1), (ROOM, 0, 0, 1, 1), (RAY, 0, 0, 1, 1), (TOTALS,),
        ]
        found = run(*ahead, *self.base, *self.look)
        self.assertEqual(found[:14], [[-1], [-1]] + [[-2]] * 11 + [[0, 0, 0, 0, 0, 0]])
        self.assertEqual(found[14:], run(*self.base, *self.look))

    def test_when_there_are_20_bodies(self):
        calls = full_world() + [(AIM, 0, 5, 0), (TICK, 1)]
        look = [(PLACES,), (MET,), (BODY, 19), (TOTALS,)]
        expected = run(*calls, *look)[-4:]
        for call in (ball(0, 0, 1), box(0, 0, 1, 1)):
            self.assertEqual(run(*calls, call, *look)[-5:], [[-4]] + expected)

    def test_a_tick_too_many_makes_none_at_all(self):
        calls = [(OPEN, 1, 0, 0), ball(0, 0, 5), ball(10, 0, 5, FIXED), ball(0, 50, 5)]
        calls += [(AIM, 2, 1, 0)] + [(TICK, 20)] * 49 + [(TICK, 18), (AIM, 0, 3, 0), (TICK, 1)]
        expected = run(*calls, (PLACES,), (MET,), (TOTALS,))[-3:]
        self.assertEqual(expected, [[0, 0, 0, 0, 0, 10, 0, 0, 0, 999, 50, 1, 0], [0, 0, 0, 1], [0, 1, 0, 0, 3, 999]])
        self.assertEqual(run(*calls, (TICK, 2), (PLACES,), (MET,), (TOTALS,))[-4:], [[-8]] + expected)
        self.assertEqual(run(*calls, (TICK, 2), (TICK, 1), (PLACES,))[-2:], [[0, 0], [0, 0, 0, 0, 0, 10, 0, 0, 0, 1000, 50, 1, 0]])


if __name__ == "__main__":
    unittest.main()
