"""The calls on a world, and their answers."""

from meetingbodies.bodies import Body, FIXED
from meetingbodies.rays import find_hits, thousandths_of
from meetingbodies.shapes import comes_within
from meetingbodies.ticks import World, do_tick

BAD_NUMBER = -1
NOT_BEGUN = -2
NO_BODY = -3
FULL = -4
BEGUN = -5
NOT_ALL = -5
NO_ROOM = -6
IS_FIXED = -7
TOO_LONG = -8

MOST_BODIES = 20
MOST_TICKS = 1000


def call_begin(world, numbers):
    """0, open: say how many parts a tick has, and the pull."""
    if world.parts > 0:
        return [BEGUN]
    world.parts = numbers[0]
    world.pull = (numbers[1], numbers[2])
    return [0]


def numbers_within(world, shape):
    """Give the numbers, rising, of all bodies that this one, which isn't put in, would be within."""
    return [number for number, body in enumerate(world.bodies) if comes_within(shape, body, (0, 0), (0, 0))]


def put_in(world, body):
    """Put a body in, if there is room; answer its number."""
    if len(world.bodies) >= MOST_BODIES:
        return [FULL]
    if numbers_within(world, body):
        return [NO_ROOM]
    world.bodies.append(body)
    return [0, len(world.bodies) - 1]


def call_box(world, numbers):
    """1, box: put a box in."""
    place = (numbers[0], numbers[1])
    half = (numbers[2], numbers[3])
    return put_in(world, Body(0, half, place, (numbers[4], numbers[5], numbers[6])))


def call_ball(world, numbers):
    """2, ball: put a ball in."""
    place = (numbers[0], numbers[1])
    half = (numbers[2], numbers[2])
    return put_in(world, Body(1, half, place, (numbers[3], numbers[4], numbers[5])))


def call_aim(world, numbers):
    """3, aim: give a body its velocity."""
    body = world.bodies[numbers[0]]
    if body.kind == FIXED:
        return [IS_FIXED]
    body.velocity = (numbers[1], numbers[2])
    return [0]


def call_tick(world, numbers):
    """4, tick: make so many ticks."""
    if world.ticks + numbers[0] > MOST_TICKS:
        return [TOO_LONG]
    for tick in range(numbers[0]):
        do_tick(world)
    return [0, len(world.met)]


def motion_of(body):
    """Give a body's place and velocity, number by number."""
    return [body.place[0], body.place[1], body.velocity[0], body.velocity[1]]


def call_body(world, numbers):
    """5, body: tell all of a body."""
    body = world.bodies[numbers[0]]
    return [0, body.kind, body.hard, body.heavy, body.ball, body.half[0], body.half[1]] + motion_of(body)


def call_places(world, numbers):
    """6, places: tell all places and velocities."""
    answer = [0]
    for body in world.bodies:
        answer.extend(motion_of(body))
    return answer


def call_met(world, numbers):
    """7, met: tell who met in the last tick."""
    answer = [0]
    for meeting in world.met:
        answer.extend(meeting)
    return answer


def call_would(world, numbers):
    """8, would: tell with whom a body would come within one another if it alone moved."""
    mover = world.bodies[numbers[0]]
    way = (numbers[1], numbers[2])
    answer = [0]
    for number, body in enumerate(world.bodies):
        if number != numbers[0] and comes_within(mover, body, way, (0, 0)):
            answer.append(number)
    return answer


def call_room(world, numbers):
    """9, room: tell which bodies a box would be within."""
    place = (numbers[0], numbers[1])
    half = (numbers[2], numbers[3])
    return [0] + numbers_within(world, Body(0, half, place, (FIXED, 0, 0)))


def call_ray(world, numbers):
    """10, ray: tell to which bodies a ray comes, and when, in thousandths."""
    answer = [0]
    for number, time in find_hits(world.bodies, tuple(numbers)):
        answer.append(number)
        answer.append(thousandths_of(time))
    return answer


def call_drop(world, numbers):
    """11, drop: take a body out."""
    world.bodies.pop(numbers[0])
    world.met = []
    return [0]


def call_renumber(world, numbers):
    """12, renumber: number the bodies anew; ahead of the list stands how many numbers it has."""
    order = numbers[1:]
    if sorted(order) != list(range(len(world.bodies))):
        return [NOT_ALL]
    world.bodies = [world.bodies[number] for number in order]
    world.met = []
    return [0]


def call_sums(world, numbers):
    """13, sums: tell the sums of velocities and of their squares; a fixed body's velocity is 0 and adds nothing."""
    in_x = [body.velocity[0] for body in world.bodies]
    in_y = [body.velocity[1] for body in world.bodies]
    return [0, sum(in_x), sum(in_y), sum([speed * speed for speed in in_x + in_y])]


def call_totals(world, numbers):
    """14, totals: tell what was opened, and how many bodies and ticks there are."""
    return [0, world.parts, world.pull[0], world.pull[1], len(world.bodies), world.ticks]


def call_order(world, numbers):
    """15, order: tell to which bodies a ray comes, and when, exactly."""
    answer = [0]
    for number, time in find_hits(world.bodies, tuple(numbers)):
        answer.append(number)
        answer.extend(time)
    return answer


CALLS = (
    call_begin, call_box, call_ball, call_aim, call_tick, call_body, call_places, call_met,
    call_would, call_room, call_ray, call_drop, call_renumber, call_sums, call_totals, call_order,
)

RENUMBER = 12
# The calls that may come while nothing is open, and those whose first number is a body.
UNOPENED = (0, 14)
OF_A_BODY = (3, 5, 8, 11)

# For each call the least and the greatest that each of its numbers may be; of renumber only how many follow.
RANGES = (
    ((1, 16), (-100, 100), (-100, 100)),
    ((-1000000, 1000000), (-1000000, 1000000), (1, 100000), (1, 100000), (0, 2), (0, 1), (0, 1)),
    ((-1000000, 1000000), (-1000000, 1000000), (1, 100000), (0, 2), (0, 1), (0, 1)),
    ((0, 19), (-1000, 1000), (-1000, 1000)),
    ((1, 20),),
    ((0, 19),),
    (),
    (),
    ((0, 19), (-1000000, 1000000), (-1000000, 1000000)),
    ((-1000000, 1000000), (-1000000, 1000000), (1, 100000), (1, 100000)),
    ((-1000000, 1000000), (-1000000, 1000000), (-1000000, 1000000), (-1000000, 1000000)),
    ((0, 19),),
    ((0, 20),),
    (),
    (),
    ((-1000000, 1000000), (-1000000, 1000000), (-1000000, 1000000), (-1000000, 1000000)),
)


def ranges_at(calls, at):
    """Give the ranges of all numbers of the call that begins there."""
    ranges = list(RANGES[calls[at]])
    if calls[at] == RENUMBER:
        ranges.extend([(0, 19) for number in range(calls[at + 1])])
    return ranges


def in_ranges(numbers, ranges):
    """Tell whether each number is in its range."""
    return all([limits[0] <= number <= limits[1] for number, limits in zip(numbers, ranges)])


def answer_call(world, call, numbers, ranges):
    """Answer one call; of several refusals that are due the one nearest to 0."""
    if not in_ranges(numbers, ranges):
        return [BAD_NUMBER]
    if world.parts == 0 and call not in UNOPENED:
        return [NOT_BEGUN]
    if call in OF_A_BODY and numbers[0] >= len(world.bodies):
        return [NO_BODY]
    return CALLS[call](world, numbers)


def answers(calls):
    """Answer a line of calls on a new world; ahead of each answer stands how many numbers it has."""
    world = World()
    answered = []
    at = 0
    while at < len(calls):
        ranges = ranges_at(calls, at)
        end = at + 1 + len(ranges)
        answer = answer_call(world, calls[at], calls[at + 1:end], ranges)
        answered.append(len(answer))
        answered.extend(answer)
        at = end
    return answered
