"""A part of a tick: who meets whom, who moves, and what becomes of velocities."""

from meetingbodies.bodies import DRIVER, FIXED
from meetingbodies.shapes import comes_within


def reach_of(body):
    """Give the least and greatest x, then y, that the body may cover in this part, whether it stays or not."""
    reach = []
    for axis in (0, 1):
        begin = body.place[axis]
        end = begin + body.velocity[axis]
        reach.append(min(begin, end) - body.half[axis])
        reach.append(max(begin, end) + body.half[axis])
    return reach


def overlap(one, other):
    """Tell whether two reaches have more than edges in common."""
    return one[0] < other[1] and other[0] < one[1] and one[2] < other[3] and other[2] < one[3]


def near_pairs(bodies):
    """Give the pairs of numbers, in order, that alone can meet in this part: sparing exact looks at all others."""
    reaches = [reach_of(body) for body in bodies]
    pairs = []
    for lesser in range(len(bodies)):
        for greater in range(lesser + 1, len(bodies)):
            if overlap(reaches[lesser], reaches[greater]):
                pairs.append((lesser, greater))
    return pairs


def halt(ways, pairs):
    """Let all bodies of these pairs stay; give, as keys, the numbers of those that would have moved until now."""
    halted = {}
    for pair in pairs:
        for number in pair:
            if ways[number] != (0, 0):
                ways[number] = (0, 0)
                halted[number] = True
    return halted


def find_met(bodies):
    """Give the pairs that meet, by rounds, and the way that each body goes in this part."""
    near = near_pairs(bodies)
    ways = [body.velocity for body in bodies]
    met = []
    asked = near
    while asked:
        found = [(i, j) for i, j in asked if comes_within(bodies[i], bodies[j], ways[i], ways[j])]
        met.extend(found)
        halted = halt(ways, found)
        # For a pair of which neither was halted just now nothing has changed since it was asked last.
        asked = [(i, j) for i, j in near if i in halted or j in halted]
    return (met, ways)


def blocked_axes(one, other):
    """Tell whether a pair that met is blocked in x, and whether in y."""
    in_x = comes_within(one, other, (one.velocity[0], 0), (other.velocity[0], 0))
    in_y = comes_within(one, other, (0, one.velocity[1]), (0, other.velocity[1]))
    if in_x or in_y:
        return (in_x, in_y)
    return (True, True)


def groups_of(bodies, pairs):
    """Give the groups, as lists of numbers, of the bodies that aren't fixed and that these pairs hang together."""
    labels = list(range(len(bodies)))
    paired = {}
    for i, j in pairs:
        paired[i] = True
        paired[j] = True
        if bodies[i].kind != FIXED and bodies[j].kind != FIXED:
            kept = labels[i]
            gone = labels[j]
            labels = [kept if label == gone else label for label in labels]
    groups = {}
    for number in sorted(paired):
        if bodies[number].kind != FIXED:
            groups.setdefault(labels[number], []).append(number)
    return list(groups.values())


def at_fixed(bodies, pairs):
    """Give, as keys, the numbers of the bodies that are in a pair with a fixed one."""
    held = {}
    for i, j in pairs:
        if bodies[i].kind == FIXED:
            held[j] = True
        if bodies[j].kind == FIXED:
            held[i] = True
    return held


def group_speeds(members, speeds, held):
    """Give the speeds of a group's bodies behind a part, from those at its beginning, in one direction."""
    if held:
        if len(members) == 1 and members[0].hard == 1:
            return [-speeds[0]]
        return [0 for speed in speeds]
    driven = [speed for member, speed in zip(members, speeds) if member.kind == DRIVER]
    if len(driven) == 1:
        return [driven[0] for speed in speeds]
    if len(members) == 2 and members[0].hard == 1 and members[1].hard == 1:
        return [speeds[1], speeds[0]]
    return [0 for speed in speeds]


def speeds_behind(bodies, pairs, axis):
    """Give the speeds of all bodies behind a part in one direction, in which these pairs are blocked."""
    before = [body.velocity[axis] for body in bodies]
    behind = list(before)
    held = at_fixed(bodies, pairs)
    for group in groups_of(bodies, pairs):
        members = [bodies[number] for number in group]
        speeds = [before[number] for number in group]
        group_held = any([number in held for number in group])
        for number, speed in zip(group, group_speeds(members, speeds, group_held)):
            behind[number] = speed
    return behind


def velocities_behind(bodies, met):
    """Give the velocities of all bodies behind a part in which these pairs met."""
    blocked = [(i, j, blocked_axes(bodies[i], bodies[j])) for i, j in met]
    in_x = speeds_behind(bodies, [(i, j) for i, j, axes in blocked if axes[0]], 0)
    in_y = speeds_behind(bodies, [(i, j) for i, j, axes in blocked if axes[1]], 1)
    return list(zip(in_x, in_y))


def do_part(bodies):
    """Do a part, changing places and velocities; give the pairs that met, by rounds."""
    found = find_met(bodies)
    met = found[0]
    ways = found[1]
    if met:
        velocities = velocities_behind(bodies, met)
    else:
        velocities = [body.velocity for body in bodies]
    for body, way, velocity in zip(bodies, ways, velocities):
        body.place = (body.place[0] + way[0], body.place[1] + way[1])
        body.velocity = velocity
    return met
