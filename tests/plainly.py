"""What the document tells, done letter by letter and deed by deed, without the program; and rules to try it with."""

import random

DEEDS = ("stroke", "step", "left", "right", "rest")
STEPS = {
    4: ((1, 0), (0, 1), (-1, 0), (0, -1)),
    6: ((1, 0), (0, 1), (-1, 1), (-1, 0), (0, -1), (1, -1)),
}
ONE = [("f", "stroke", "f")]
TRIPLE = [("f", "stroke", "fff")]
HOUSE = [("f", "stroke", "flf"), ("l", "left", "l")]
# two letters that give way to one another: words that never grow, and another letter in each round
SWAP = [("a", "left", "b"), ("b", "stroke", "a")]
MORSE = [("a", "stroke", "ab"), ("b", "left", "ba")]
KOCH = [("f", "stroke", "flfrrflf"), ("l", "left", "l"), ("r", "right", "r")]
DRAGON = [("x", "stroke", "xly"), ("y", "stroke", "xry"), ("l", "left", "l"), ("r", "right", "r")]
SLOW = [("a", "step", "ab"), ("b", "stroke", "c"), ("c", "right", "b")]
# one letter (n) is in no word, another one (a) grows by one letter a round, two give way to one another
SIX = [
    ("s", "stroke", "slsrt"),
    ("t", "step", "t"),
    ("l", "left", "r"),
    ("r", "right", "l"),
    ("n", "rest", "nnsa"),
    ("a", "stroke", "at"),
]
EIGHTS = [
    ("a", "stroke", "abcdefab"),
    ("b", "left", "fedcbafe"),
    ("c", "step", "acacacac"),
    ("d", "right", "ffffffff"),
    ("e", "rest", "bdbdbdbd"),
    ("f", "stroke", "aabbccdd"),
]
SAMPLES = (
    (ONE, "f"),
    (ONE, "ffffffff"),
    (TRIPLE, "ff"),
    (HOUSE, "f"),
    (HOUSE, "lfl"),
    (SWAP, "a"),
    (SWAP, "abba"),
    (MORSE, "a"),
    (KOCH, "frrfrrf"),
    (DRAGON, "xlylxry"),
    (SLOW, "a"),
    (SLOW, "cabab"),
    (SIX, "n"),
    (SIX, "stlrna"),
    (EIGHTS, "d"),
    (EIGHTS, "fedcba"),
)


def grown(rows, word, age):
    """The round of that number of the word."""
    words = {row[0]: row[2] for row in rows}
    for times in range(age):
        word = "".join(words[letter] for letter in word)
    return word


def deeds_of(rows, word):
    """The deeds of the word's letters."""
    deeds = {row[0]: row[1] for row in rows}
    return [deeds[letter] for letter in word]


def counted(rows, word):
    """How often each letter of the rows stands in the word."""
    return {row[0]: sum(letter == row[0] for letter in word) for row in rows}


def far(ways, way, spot):
    """How far the spot lies along the way."""
    x, y = spot
    return {4: (x, y, -x, -y), 6: (2 * x + y, x + 2 * y, y - x, -2 * x - y, -x - 2 * y, x - y)}[ways][way]


def walked(ways, deeds, first=0):
    """The spot and the way of the pen at each place, from 0 to the number of deeds."""
    x, y, way = 0, 0, first
    places = [((x, y), way)]
    for deed in deeds:
        if deed in ("stroke", "step"):
            x, y = x + STEPS[ways][way][0], y + STEPS[ways][way][1]
        elif deed == "left":
            way = (way + 1) % ways
        elif deed == "right":
            way = (way - 1) % ways
        places.append(((x, y), way))
    return places


def shown(ways, deeds, first=0):
    """All that a track tells of these deeds, drawn from that first way; the turn is told from there too."""
    places = walked(ways, deeds, first)
    spots = [spot for spot, way in places]
    fars = [[far(ways, way, spot) for spot in spots] for way in range(ways)]
    reach = [max(numbers) for numbers in fars]
    touch = [numbers.index(max(numbers)) for numbers in fars]
    area = sum(x * v - y * u for (x, y), (u, v) in zip(spots, spots[1:]))
    turn = (places[-1][1] - first) % ways
    return (len(deeds), turn, spots[-1], list(deeds).count("stroke"), reach, touch, area)


def chosen_deeds(seed, many):
    """So many deeds, strewn but the same each time."""
    return random.Random(seed).choices(DEEDS, k=many)


def chosen_numbers(seed, many, least, most):
    """So many whole numbers from the least to the most, strewn but the same each time; both ends are among them."""
    strewn = random.Random(seed)
    return [least, most] + [strewn.randint(least, most) for times in range(many - 2)]


def chosen_rows(seed):
    """Rows of one to six letters, strewn but the same each time."""
    strewn = random.Random(seed)
    letters = strewn.sample("abcdefghijklmnopqrstuvwxyz", strewn.randint(1, 6))
    return [
        (letter, strewn.choice(DEEDS), "".join(strewn.choices(letters, k=strewn.randint(1, 4)))) for letter in letters
    ]
