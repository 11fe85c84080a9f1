"""Figures: what short words draw, and how figures are moved and laid upon one another."""

from strokegrow.pens import added
from strokegrow.writing import MOST_WRITTEN


def path(rules, word):
    """The pen at all places of the word: tuples (spot, way)."""
    rules.word_of(word, MOST_WRITTEN)
    pen = rules.pen()
    places = [((0, 0), 0)]
    for letter in word:
        last = places[-1]
        places.append(pen.after(rules.deed(letter), last[0], last[1]))
    return places


def figure(rules, word):
    """The strokes of the word, in their order: for each the tuple (spot, way) of the pen ahead of it."""
    return [place for place, letter in zip(path(rules, word), word) if rules.deed(letter) == "stroke"]


def moved(pen, ones, turn, shift):
    """The figure with each stroke turned and shifted."""
    return [(added(pen.turned(spot, turn), shift), pen.way_of(way + turn)) for spot, way in ones]


def line_of(pen, spot, way):
    """The two ends of a stroke, the lesser first: so it is the same line whichever way it is drawn."""
    return tuple(sorted([spot, added(spot, pen.step(way))]))


def lines_of(pen, ones):
    """The line of each stroke of the figure."""
    return [line_of(pen, spot, way) for spot, way in ones]


def shared(pen, ones, others):
    """The lines that both figures have, each of them once, sorted."""
    return sorted(set(lines_of(pen, ones)) & set(lines_of(pen, others)))


def turn_between(pen, one, other):
    """The one turn that leads the way of a stroke to that of another."""
    return pen.way_of(other[1] - one[1])


def shift_between(pen, one, other):
    """The one shift that leads the spot of a stroke, once it is turned so, to that of another."""
    spot = pen.turned(one[0], turn_between(pen, one, other))
    return (other[0][0] - spot[0], other[0][1] - spot[1])


def compared(pen, ones, others):
    """Whether a turn and a shift lay the first figure upon the second, or the first stroke at which none does."""
    if len(ones) == 0 and len(others) == 0:
        return ("alike", 0, (0, 0))
    many = min(len(ones), len(others))
    if many == 0:
        return ("part", 0)
    # the first strokes leave but one turn and one shift to try
    turn = turn_between(pen, ones[0], others[0])
    shift = shift_between(pen, ones[0], others[0])
    for k, stroke in enumerate(moved(pen, ones[:many], turn, shift)):
        if stroke != others[k]:
            return ("part", k)
    if len(ones) != len(others):
        return ("part", many)
    return ("alike", turn, shift)
