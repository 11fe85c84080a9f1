"""Pens of four ways and of six: how spots are turned, and what each deed does."""

from strokegrow.errors import NoDeed, NoPen

DEEDS = ("stroke", "step", "left", "right", "rest")
GOING_DEEDS = ("stroke", "step")


def added(one, other):
    """Two spots, added number by number."""
    return (one[0] + other[0], one[1] + other[1])


def cross(one, other):
    """The cross of two spots."""
    return one[0] * other[1] - one[1] * other[0]


def turn_of_deed(deed):
    """By how much a deed makes the way grow."""
    if deed == "left":
        return 1
    if deed == "right":
        return -1
    return 0


class Pen:
    """What both pens have in common; only a Quarter or a Sixth is made."""

    def ways(self):
        """How many ways the pen has."""
        raise NotImplementedError("a pen is a Quarter or a Sixth")

    def turned_left(self, spot):
        """The spot turned to the left once."""
        raise NotImplementedError("a pen is a Quarter or a Sixth")

    def along(self, way, spot):
        """How far the spot lies along the way."""
        raise NotImplementedError("a pen is a Quarter or a Sixth")

    def way_of(self, number):
        """The way that is the rest of any whole number."""
        return number % self.ways()

    def turned(self, spot, by):
        """The spot turned to the left so many times."""
        # the rest alone: all full turns lead a spot to itself, and by may be far too great to count through
        for turns in range(self.way_of(by)):
            spot = self.turned_left(spot)
        return spot

    def step(self, way):
        """The step of the way."""
        return self.turned((1, 0), way)

    def after(self, deed, spot, way):
        """The spot and the way of the pen behind the deed."""
        if deed not in DEEDS:
            raise NoDeed(f"no deed: {deed!r}")
        if deed in GOING_DEEDS:
            spot = added(spot, self.step(way))
        return (spot, self.way_of(way + turn_of_deed(deed)))


class Quarter(Pen):
    """The pen of four ways."""

    def ways(self):
        """How many ways the pen has."""
        return 4

    def turned_left(self, spot):
        """The spot turned to the left once."""
        return (-spot[1], spot[0])

    def along(self, way, spot):
        """How far the spot lies along the way."""
        x = spot[0]
        y = spot[1]
        return (x, y, -x, -y)[self.way_of(way)]


class Sixth(Pen):
    """The pen of six ways."""

    def ways(self):
        """How many ways the pen has."""
        return 6

    def turned_left(self, spot):
        """The spot turned to the left once."""
        return (-spot[1], spot[0] + spot[1])

    def along(self, way, spot):
        """How far the spot lies along the way."""
        x = spot[0]
        y = spot[1]
        return (2 * x + y, x + 2 * y, y - x, -2 * x - y, -x - 2 * y, x - y)[self.way_of(way)]


def pen_of(ways):
    """The pen of so many ways."""
    if ways == 4:
        return Quarter()
    if ways == 6:
        return Sixth()
    raise NoPen("a pen has four ways or six")
