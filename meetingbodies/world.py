"""The calls on a world, and their answers."""

from meetingbodies.bodies import Body, FIXED
from meetingbodies.shapes import comes_within
from meetingbodies.ticks import World, do_tick

BAD_NUMBER = -1
NOT_BEGUN = -2
NO_BODY = -3
FULL = -4
BEGUN = -5
NO_ROOM = -6
IS_FIXED = -7
TOO_LONG = -8

MOST_BODIES = 20
MOST_TICKS = 1000


def call_begin(world, numbers):
    """0, open: say how many parts a tick has, and the pull."""
    if world.parts > 0:
        return [BEGUN]
    world.parts = numbers[0]
    world.pull = (numbers[1], numbers[2])
    return [0]


def put_in(world, body):
    """Put a body in, if there is room; answer its number."""
    if len(world.bodies) >= MOST_BODIES:
        return [FULL]
    if any([comes_within(body, other, (0, 0), (0, 0)) for other in world.bodies]):
        return [NO_ROOM]
    world.bodies.append(body)
    return [0, len(world.bodies) - 1]


def call_box(world, numbers):
    """1, box: put a box in."""
    place = (numbers[0], numbers[1])
    half = (numbers[2], numbers[3])
    return put_in(world, Body(0, half, place, (numbers[4], numbers[5], numbers[6])))


def call_ball(world, numbers):
    """2, ball: put a ball in."""
    place = (numbers[0], numbers[1])
    half = (numbers[2], numbers[2])
    return put_in(world, Body(1, half, place, (numbers[3], numbers[4], numbers[5])))


def call_aim(world, numbers):
    """3, aim: give a body its velocity."""
    if numbers[0] >= len(world.bodies):
        return [NO_BODY]
    body = world.bodies[numbers[0]]
    if body.kind == FIXED:
        return [IS_FIXED]
    body.velocity = (numbers[1], numbers[2])
    return [0]


def call_tick(world, numbers):
    """4, tick: make so many ticks."""
    if world.ticks + numbers[0] > MOST_TICKS:
        return [TOO_LONG]
    for tick in range(numbers[0]):
        do_tick(world)
    return [0, len(world.met)]


def motion_of(body):
    """Give a body's place and velocity, number by number."""
    return [body.place[0], body.place[1], body.velocity[0], body.velocity[1]]


def call_body(world, numbers):
    """5, body: tell all of a body."""
    if numbers[0] >= len(world.bodies):
        return [NO_BODY]
    body = world.bodies[numbers[0]]
    return [0, body.kind, body.hard, body.heavy, body.ball, body.half[0], body.half[1]] + motion_of(body)


def call_places(world, numbers):
    """6, places: tell all places and velocities."""
    answer = [0]
    for body in world.bodies:
        answer.extend(motion_of(body))
    return answer


def call_met(world, numbers):
    """7, met: tell who met in the last tick."""
    answer = [0]
    for meeting in world.met:
        answer.extend(meeting)
    return answer


CALLS = (call_begin, call_box, call_ball, call_aim, call_tick, call_body, call_places, call_met)

# For each call the least and the greatest that each of its numbers may be.
RANGES = (
    ((1, 16), (-100, 100), (-100, 100)),
    ((-1000000, 1000000), (-1000000, 1000000), (1, 100000), (1, 100000), (0, 2), (0, 1), (0, 1)),
    ((-1000000, 1000000), (-1000000, 1000000), (1, 100000), (0, 2), (0, 1), (0, 1)),
    ((0, 19), (-1000, 1000), (-1000, 1000)),
    ((1, 20),),
    ((0, 19),),
    (),
    (),
)


def in_ranges(numbers, ranges):
    """Tell whether each number is in its range."""
    return all([limits[0] <= number <= limits[1] for number, limits in zip(numbers, ranges)])


def answer_call(world, call, numbers):
    """Answer one call; of several refusals that are due the one nearest to 0."""
    if not in_ranges(numbers, RANGES[call]):
        return [BAD_NUMBER]
    if world.parts == 0 and call != 0:
        return [NOT_BEGUN]
    return CALLS[call](world, numbers)


def answers(calls):
    """Answer a line of calls on a new world; ahead of each answer stands how many numbers it has."""
    world = World()
    answered = []
    at = 0
    while at < len(calls):
        call = calls[at]
        end = at + 1 + len(RANGES[call])
        answer = answer_call(world, call, calls[at + 1:end])
        answered.append(len(answer))
        answered.extend(answer)
        at = end
    return answered
