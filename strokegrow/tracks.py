"""Tracks: what is told of a pen that does a row of deeds."""

from strokegrow.pens import added, cross


class Track:
    """The track of a row of deeds; it is made by still, track_of and joined, and never changed."""

    def __init__(self, pen, deed_count, last_way, last_spot, stroke_count, reaches, touches, crosses):
        self.drawer = pen
        self.deed_count = deed_count
        self.last_way = last_way
        self.last_spot = last_spot
        self.stroke_count = stroke_count
        self.reaches = reaches
        self.touches = touches
        self.crosses = crosses

    def many(self):
        """How many deeds there are."""
        return self.deed_count

    def turn(self):
        """The way behind all deeds."""
        return self.last_way

    def strokes(self):
        """How many of the deeds are strokes."""
        return self.stroke_count

    def shift(self, first=0):
        """The spot behind all deeds, drawn from that first way."""
        return self.drawer.turned(self.last_spot, first)

    def by_ways(self, numbers, first):
        """Numbers that are kept by the ways from the first way 0, told from another first way."""
        return [numbers[self.drawer.way_of(way - first)] for way in range(len(numbers))]

    def reach(self, first=0):
        """How far the pen comes along each way, drawn from that first way."""
        return self.by_ways(self.reaches, first)

    def touch(self, first=0):
        """The least places at which the reaches are met, drawn from that first way."""
        return self.by_ways(self.touches, first)

    def area(self):
        """Twice the area that the pen goes round with the straight way back."""
        return self.crosses

    def closed(self):
        """Whether the pen ends where it began."""
        return self.last_spot == (0, 0)

    def joined(self, other):
        """The track of these deeds and then the other's."""
        pen = self.drawer
        shift = other.shift(self.last_way)
        reaches = other.reach(self.last_way)
        touches = other.touch(self.last_way)
        for way in range(pen.ways()):
            reaches[way] = reaches[way] + pen.along(way, self.last_spot)
            touches[way] = touches[way] + self.deed_count
            # where both come as far, the place in the first is the lesser one
            if self.reaches[way] >= reaches[way]:
                reaches[way] = self.reaches[way]
                touches[way] = self.touches[way]
        return Track(
            pen,
            self.deed_count + other.many(),
            pen.way_of(self.last_way + other.turn()),
            added(self.last_spot, shift),
            self.stroke_count + other.strokes(),
            reaches,
            touches,
            self.crosses + other.area() + cross(self.last_spot, shift),
        )

    def told(self):
        """All that is told of the track from the first way 0."""
        return (
            self.many(),
            self.turn(),
            self.shift(),
            self.strokes(),
            self.reach(),
            self.touch(),
            self.area(),
        )


def still(pen):
    """The track of no deeds."""
    return Track(pen, 0, 0, (0, 0), 0, [0] * pen.ways(), [0] * pen.ways(), 0)


def track_of_deed(pen, deed):
    """The track of one deed."""
    behind = pen.after(deed, (0, 0), 0)
    spot = behind[0]
    reaches = [max(0, pen.along(way, spot)) for way in range(pen.ways())]
    touches = [min(1, reach) for reach in reaches]
    return Track(pen, 1, behind[1], spot, 1 if deed == "stroke" else 0, reaches, touches, 0)


def track_of(pen, deeds):
    """The track of a list of deeds."""
    track = still(pen)
    for deed in deeds:
        track = track.joined(track_of_deed(pen, deed))
    return track
