"""A world, and what a tick does to it."""

from meetingbodies.bodies import FREE
from meetingbodies.parts import do_part

FASTEST = 1000


class World:
    """All that a line of calls keeps; parts is 0 as long as nothing is open."""

    def __init__(self):
        self.parts = 0
        self.pull = (0, 0)
        self.bodies = []
        self.ticks = 0
        self.met = []


def cut(speed):
    """Give the speed that is nearest to this one and allowed."""
    return max(-FASTEST, min(FASTEST, speed))


def pull_bodies(world):
    """Add the pull to the velocity of each free heavy body."""
    for body in world.bodies:
        if body.kind == FREE and body.heavy == 1:
            body.velocity = (cut(body.velocity[0] + world.pull[0]), cut(body.velocity[1] + world.pull[1]))


def do_tick(world):
    """Make one tick."""
    pull_bodies(world)
    met = []
    for part in range(world.parts):
        for lesser, greater in do_part(world.bodies):
            met.append((part, lesser, greater))
    world.met = met
    world.ticks += 1
