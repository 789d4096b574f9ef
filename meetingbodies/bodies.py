"""What a body is."""

FIXED = 0
FREE = 1
DRIVER = 2


class Body:
    """A box (ball is 0, half is its half width and half height) or a ball (ball is 1, half is its radius twice)."""

    def __init__(self, ball, half, place, nature):
        """Make a body at rest; nature is its kind, whether it is hard and whether it is heavy."""
        self.ball = ball
        self.half = half
        self.place = place
        self.kind = nature[0]
        self.hard = nature[1]
        self.heavy = nature[2]
        self.velocity = (0, 0)
