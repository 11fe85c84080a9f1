"""Points 2, 3 and 29 to 32: paths and figures, figures moved, their shared lines, and two figures compared."""

import random
import unittest

from plainly import DRAGON, EIGHTS, HOUSE, KOCH, ONE, SAMPLES, SIX, STEPS, chosen_rows, deeds_of, grown, walked
from strokegrow.errors import NoWord
from strokegrow.figures import compared, figure, moved, path, shared
from strokegrow.pens import Quarter, Sixth
from strokegrow.rules import Rules

GREAT = 10 ** 199
PENS = ((4, Quarter()), (6, Sixth()))
# one letter for each deed
ALL_DEEDS = [("f", "stroke", "f"), ("g", "step", "g"), ("l", "left", "l"), ("r", "right", "r"), ("n", "rest", "n")]
SHIFTS = ((0, 0), (1, 0), (0, -1), (-7, 12), (GREAT, -GREAT + 3), (-GREAT, 5))


def strokes_one_by_one(ways, rows, word):
    """The pen ahead of each stroke."""
    deeds = deeds_of(rows, word)
    return [place for place, deed in zip(walked(ways, deeds), deeds) if deed == "stroke"]


def turned_one_by_one(ways, spot, by):
    """The spot turned to the left, by a number that is not below 0."""
    for times in range(by):
        spot = (-spot[1], spot[0]) if ways == 4 else (-spot[1], spot[0] + spot[1])
    return spot


def moved_one_by_one(ways, ones, turn, shift):
    """The figure moved by a turn that is not below 0."""
    told = []
    for spot, way in ones:
        x, y = turned_one_by_one(ways, spot, turn)
        told.append(((x + shift[0], y + shift[1]), (way + turn) % ways))
    return told


def line(ways, stroke):
    """The ends of a stroke, the lesser first."""
    (x, y), way = stroke
    end = (x + STEPS[ways][way][0], y + STEPS[ways][way][1])
    return ((x, y), end) if (x, y) < end else (end, (x, y))


def back(ways, stroke):
    """The same line, drawn the other way."""
    (x, y), way = stroke
    return ((x + STEPS[ways][way][0], y + STEPS[ways][way][1]), (way + ways // 2) % ways)


def chosen_figure(ways, seed, many):
    """So many strokes, strewn but the same each time, in a narrow field."""
    strewn = random.Random(seed)
    return [((strewn.randint(-2, 2), strewn.randint(-2, 2)), strewn.randrange(ways)) for times in range(many)]


def drawn_figures(ways):
    """Figures of words of many rules."""
    told = []
    for rows, start in list(SAMPLES) + [(chosen_rows(seed), chosen_rows(seed)[0][0]) for seed in range(10)]:
        for age in range(4):
            word = grown(rows, start, age)
            if len(word) <= 400:
                told.append(figure(Rules(ways, rows), word))
    return told


def parting(ways, ones, others):
    """The first stroke at which no turn and shift move the ones to the others, by all turns; None for none."""
    for k in range(max(len(ones), len(others))):
        if k >= min(len(ones), len(others)):
            return k
        fits = False
        for turn in range(ways):
            x, y = turned_one_by_one(ways, ones[0][0], turn)
            shift = (others[0][0][0] - x, others[0][0][1] - y)
            fits = fits or moved_one_by_one(ways, ones[:k + 1], turn, shift) == others[:k + 1]
        if not fits:
            return k
    return None


class Paths(unittest.TestCase):
    def no_word(self, at, rules, word):
        for ask in (path, figure):
            for times in range(2):
                with self.assertRaises(NoWord, msg=word) as caught:
                    ask(rules, word)
                self.assertEqual(caught.exception.at, at, word)

    def test_the_pen_at_all_places(self):
        for ways, pen in PENS:
            for rows, start in SAMPLES:
                for age in range(4):
                    word = grown(rows, start, age)
                    if len(word) <= 400:
                        told = path(Rules(ways, rows), word)
                        self.assertEqual(told, walked(ways, deeds_of(rows, word)))
                        self.assertEqual(len(told), len(word) + 1)

    def test_figures_are_the_pen_ahead_of_the_strokes(self):
        for ways, pen in PENS:
            for rows, start in list(SAMPLES) + [(ALL_DEEDS, "fglrnfgl")]:
                for age in range(4):
                    word = grown(rows, start, age)
                    if len(word) <= 400:
                        self.assertEqual(figure(Rules(ways, rows), word), strokes_one_by_one(ways, rows, word))

    def test_kinds(self):
        for told in (path(Rules(4, HOUSE), "flf"), figure(Rules(6, HOUSE), "flf")):
            self.assertIs(type(told), list)
            for place in told:
                self.assertEqual([type(place), type(place[0]), type(place[1])], [tuple, tuple, int])

    def test_known_ones(self):
        four = Rules(4, ALL_DEEDS)
        six = Rules(6, ALL_DEEDS)
        self.assertEqual(path(four, "f"), [((0, 0), 0), ((1, 0), 0)])
        self.assertEqual(path(four, "r"), [((0, 0), 0), ((0, 0), 3)])
        self.assertEqual(path(six, "lfng"), [((0, 0), 0), ((0, 0), 1), ((0, 1), 1), ((0, 1), 1), ((0, 2), 1)])
        self.assertEqual(figure(four, "flgfrrf"), [((0, 0), 0), ((1, 1), 1), ((1, 2), 3)])
        self.assertEqual(figure(six, "fllfllf"), [((0, 0), 0), ((1, 0), 2), ((0, 1), 4)])
        self.assertEqual(figure(six, "rf"), [((0, 0), 5)])

    def test_figures_without_strokes(self):
        for ways, pen in PENS:
            rules = Rules(ways, ALL_DEEDS)
            for word in ("g", "l", "r", "n", "glrn", "glrn" * 100):
                self.assertEqual(figure(rules, word), [])
                self.assertEqual(len(path(rules, word)), len(word) + 1)

    def test_400_letters(self):
        rules = Rules(4, ALL_DEEDS)
        self.assertEqual(path(rules, "f" * 400)[-1], ((400, 0), 0))
        self.assertEqual(figure(rules, "f" * 400)[-1], ((399, 0), 0))
        self.assertEqual(len(figure(rules, "f" * 400)), 400)
        self.assertEqual(path(rules, "flfgrfln" * 50), walked(4, deeds_of(ALL_DEEDS, "flfgrfln" * 50)))

    def test_no_word(self):
        rules = Rules(4, ALL_DEEDS)
        refused = (
            ("", 0), ("q", 0), ("F", 0), ("fq", 1), ("flf ", 3), ("f" * 401, 400), ("f" * 400 + "q", 400),
            ("f" * 399 + "q", 399), ("f" * 1000, 400), ("fffqf" + "f" * 500, 3),
        )
        for word, at in refused:
            self.no_word(at, rules, word)
        self.assertEqual(rules.rows_told(), ALL_DEEDS)

    def test_told_lists_are_the_askers_own(self):
        rules = Rules(4, HOUSE)
        for ask in (path, figure):
            one = ask(rules, "flf")
            other = ask(rules, "flf")
            self.assertIsNot(one, other)
            kept = list(other)
            one[0] = None
            one.pop()
            self.assertEqual(other, kept)
            self.assertEqual(ask(rules, "flf"), kept)


class Moved(unittest.TestCase):
    def test_each_turn_and_shift(self):
        for ways, pen in PENS:
            for ones in ([], chosen_figure(ways, 1, 1), chosen_figure(ways, 2, 30), [((GREAT, -3), 1), ((7, -GREAT), 0)]):
                for turn in range(ways):
                    for shift in SHIFTS:
                        expected = moved_one_by_one(ways, ones, turn, shift)
                        for by in (turn, turn + ways, turn - ways, turn - 5 * ways, turn + ways * GREAT, turn - ways * GREAT):
                            self.assertEqual(moved(pen, ones, by, shift), expected, (ways, by, shift))

    def test_known_ones(self):
        ones = [((3, 5), 0), ((-1, 2), 3)]
        self.assertEqual(moved(Quarter(), ones, 1, (10, 20)), [((5, 23), 1), ((8, 19), 0)])
        self.assertEqual(moved(Quarter(), ones, -1, (0, 0)), [((5, -3), 3), ((2, 1), 2)])
        self.assertEqual(moved(Sixth(), ones, 1, (10, 20)), [((5, 28), 1), ((8, 21), 4)])
        self.assertEqual(moved(Sixth(), ones, -1, (0, 0)), [((8, -3), 5), ((1, 1), 2)])

    def test_moved_and_moved_back(self):
        for ways, pen in PENS:
            for ones in drawn_figures(ways):
                there = moved(pen, ones, 1, (4, -9))
                self.assertEqual(moved(pen, moved(pen, there, 0, (-4, 9)), -1, (0, 0)), ones)

    def test_kinds_and_what_is_handed_in_stays(self):
        for ways, pen in PENS:
            ones = [((1, 2), 0), ((3, 4), 1)]
            for turn, shift in ((0, (0, 0)), (1, (1, 1))):
                told = moved(pen, ones, turn, shift)
                self.assertIs(type(told), list)
                self.assertEqual([type(part) for stroke in told for part in (stroke, stroke[0])], [tuple] * 4)
                self.assertIsNot(told, ones)
                told.append(None)
                told[0] = None
                self.assertEqual(ones, [((1, 2), 0), ((3, 4), 1)])
                self.assertEqual(len(moved(pen, ones, turn, shift)), 2)


class Shared(unittest.TestCase):
    def test_strewn_figures(self):
        for ways, pen in PENS:
            for seed in range(60):
                ones = chosen_figure(ways, seed, 3 * seed)
                others = chosen_figure(ways, seed + 500, 20)
                expected = sorted({line(ways, one) for one in ones} & {line(ways, other) for other in others})
                self.assertEqual(shared(pen, ones, others), expected)
                self.assertEqual(shared(pen, others, ones), expected)

    def test_the_same_list_twice(self):
        for ways, pen in PENS:
            for ones in drawn_figures(ways):
                kept = list(ones)
                self.assertEqual(shared(pen, ones, ones), sorted({line(ways, one) for one in ones}))
                self.assertEqual(ones, kept)

    def test_a_line_drawn_both_ways(self):
        for ways, pen in PENS:
            for way in range(ways):
                for spot in ((0, 0), (-3, 8), (GREAT, -GREAT)):
                    stroke = (spot, way)
                    for one in (stroke, back(ways, stroke)):
                        for other in (stroke, back(ways, stroke)):
                            self.assertEqual(shared(pen, [one], [other]), [line(ways, stroke)])

    def test_a_line_drawn_more_than_once(self):
        for ways, pen in PENS:
            one = ((2, 1), 1)
            other = back(ways, one)
            self.assertEqual(shared(pen, [one, one, other], [other, one, other, other]), [line(ways, one)])
            self.assertEqual(shared(pen, [one] * 500 + [other] * 500, [other] * 1000), [line(ways, one)])

    def test_lines_that_only_one_has(self):
        for ways, pen in PENS:
            self.assertEqual(shared(pen, [((0, 0), 0)], [((0, 0), 1)]), [])
            self.assertEqual(shared(pen, [((0, 0), 0)], [((1, 0), 0)]), [])
            self.assertEqual(shared(pen, [((0, 0), 0)], [((0, 0), ways // 2)]), [])
            # two figures may have a spot in common and yet no line there
            self.assertEqual(shared(pen, [((0, 0), 0), ((5, 5), 1)], [((5, 5), 1), ((1, 0), 1)]), [((5, 5), (5, 6))])

    def test_the_order_of_the_lines(self):
        ones = [((10, 0), 1), ((9, 0), 0), ((0, 0), 0), ((-1, 5), 3), ((-1, -5), 0), ((0, 0), 1), ((2, -9), 2)]
        expected = [
            ((-1, -5), (0, -5)), ((-1, 4), (-1, 5)), ((0, 0), (0, 1)), ((0, 0), (1, 0)), ((1, -9), (2, -9)),
            ((9, 0), (10, 0)), ((10, 0), (10, 1)),
        ]
        self.assertEqual(shared(Quarter(), ones, list(reversed(ones))), expected)
        six = [((0, 0), way) for way in range(6)]
        expected = [
            ((-1, 0), (0, 0)), ((-1, 1), (0, 0)), ((0, -1), (0, 0)), ((0, 0), (0, 1)), ((0, 0), (1, -1)), ((0, 0), (1, 0)),
        ]
        self.assertEqual(shared(Sixth(), six, six), expected)

    def test_figures_without_lines(self):
        for ways, pen in PENS:
            ones = chosen_figure(ways, 5, 10)
            for told in (shared(pen, [], []), shared(pen, ones, []), shared(pen, [], ones)):
                self.assertEqual(told, [])
                self.assertIs(type(told), list)

    def test_kinds_and_the_askers_own(self):
        ones = [((0, 0), 0), ((0, 0), 1)]
        others = [((1, 0), 2), ((0, 1), 3)]
        one = shared(Quarter(), ones, others)
        self.assertEqual(one, [((0, 0), (0, 1)), ((0, 0), (1, 0))])
        self.assertIs(type(one), list)
        self.assertEqual([type(part) for pair in one for part in (pair, pair[0], pair[1])], [tuple] * 6)
        one.clear()
        self.assertEqual(len(shared(Quarter(), ones, others)), 2)
        self.assertEqual((ones, others), ([((0, 0), 0), ((0, 0), 1)], [((1, 0), 2), ((0, 1), 3)]))


class Compared(unittest.TestCase):
    def test_alike_with_each_turn_and_shift(self):
        for ways, pen in PENS:
            for ones in drawn_figures(ways) + [chosen_figure(ways, 3, many) for many in (1, 2, 1000)]:
                for turn in range(ways):
                    for shift in SHIFTS if len(ones) < 40 else SHIFTS[-2:]:
                        others = moved_one_by_one(ways, ones, turn, shift)
                        expected = ("alike", turn, shift) if ones else ("alike", 0, (0, 0))
                        self.assertEqual(compared(pen, ones, others), expected)

    def test_words_that_draw_the_same_elsewhere(self):
        self.assertEqual(
            compared(Quarter(), figure(Rules(4, ALL_DEEDS), "flf"), figure(Rules(4, ALL_DEEDS), "ggrnfnllrf")),
            ("alike", 3, (2, 0)),
        )
        self.assertEqual(
            compared(Sixth(), figure(Rules(6, ALL_DEEDS), "flf"), figure(Rules(6, ALL_DEEDS), "glfrllfgg")),
            ("alike", 1, (1, 0)),
        )

    def test_without_strokes(self):
        for ways, pen in PENS:
            self.assertEqual(compared(pen, [], []), ("alike", 0, (0, 0)))
            for ones in ([((0, 0), 0)], [((4, 5), 3)], chosen_figure(ways, 9, 20)):
                self.assertEqual(compared(pen, ones, []), ("part", 0))
                self.assertEqual(compared(pen, [], ones), ("part", 0))

    def test_first_strokes_are_always_alike(self):
        for ways, pen in PENS:
            one = [((3, -8), 1)]
            for way in range(ways):
                for spot in ((0, 0), (7, 7), (GREAT, 1)):
                    told = compared(pen, one, [(spot, way)])
                    self.assertEqual(told[:2], ("alike", (way - 1) % ways))
                    self.assertEqual(moved(pen, one, told[1], told[2]), [(spot, way)])

    def test_parting_at_each_stroke(self):
        for ways, pen in PENS:
            ones = figure(Rules(ways, ALL_DEEDS), "flfrfgffllfrf")
            for turn in range(ways):
                others = moved_one_by_one(ways, ones, turn, (5, -GREAT))
                for k in range(1, len(ones)):
                    (x, y), way = others[k]
                    for changed in (((x + 1, y), way), ((x, y - 1), way), ((x, y), (way + 1) % ways), back(ways, others[k])):
                        parted = others[:k] + [changed] + others[k + 1:]
                        self.assertEqual(compared(pen, ones, parted), ("part", k))
                        self.assertEqual(compared(pen, parted, ones), ("part", k))

    def test_one_is_the_beginning_of_the_other(self):
        for ways, pen in PENS:
            ones = figure(Rules(ways, ALL_DEEDS), "flfrfgffllfrf")
            others = moved_one_by_one(ways, ones, 3, (-2, 6))
            for many in range(len(ones)):
                self.assertEqual(compared(pen, ones[:many], others), ("part", many))
                self.assertEqual(compared(pen, others, ones[:many]), ("part", many))

    def test_a_part_ahead_of_the_end_of_the_shorter_one(self):
        ones = [((0, 0), 0), ((1, 0), 0), ((2, 0), 0)]
        others = [((0, 0), 0), ((1, 0), 1), ((2, 0), 0), ((3, 0), 0), ((4, 0), 0)]
        self.assertEqual(compared(Quarter(), ones, others), ("part", 1))
        self.assertEqual(compared(Quarter(), others, ones), ("part", 1))

    def test_the_same_lines_in_another_order(self):
        square = [((0, 0), 0), ((1, 0), 1), ((1, 1), 2), ((0, 1), 3)]
        self.assertEqual(compared(Quarter(), square, square[1:] + square[:1]), ("alike", 1, (1, 0)))
        self.assertEqual(compared(Quarter(), square, list(reversed(square))), ("part", 1))
        self.assertEqual(compared(Quarter(), square, [square[0], square[2], square[1], square[3]]), ("part", 1))
        drawn_back = [back(4, stroke) for stroke in reversed(square)]
        self.assertEqual(len(shared(Quarter(), square, drawn_back)), 4)
        self.assertEqual(compared(Quarter(), square, drawn_back), ("part", 1))
        six = figure(Rules(6, ALL_DEEDS), "ffllfrf")
        self.assertEqual(compared(Sixth(), six, [six[0], six[2], six[1], six[3]]), ("part", 1))

    def test_mirrored_figures_part(self):
        for ways, pen in PENS:
            rules = Rules(ways, ALL_DEEDS)
            self.assertEqual(compared(pen, figure(rules, "fflf"), figure(rules, "ffrf")), ("part", 2))

    def test_against_all_turns(self):
        for ways, pen in PENS:
            for seed in range(150):
                strewn = random.Random(seed)
                rules = Rules(ways, ALL_DEEDS)
                one = "".join(strewn.choices("ffglrn", k=12))
                other = "".join(strewn.choices("glr", k=3)) + one[:strewn.randint(1, 12)] + strewn.choice(["", "f", "lf"])
                ones = figure(rules, one)
                others = figure(rules, other)
                expected = parting(ways, ones, others)
                told = compared(pen, ones, others)
                if expected is None:
                    self.assertEqual(told[0], "alike")
                    self.assertEqual(moved(pen, ones, told[1], told[2]), others)
                else:
                    self.assertEqual(told, ("part", expected))

    def test_kinds_and_what_is_handed_in_stays(self):
        ones = [((0, 0), 0), ((1, 0), 1)]
        others = [((5, 5), 1), ((5, 6), 2)]
        told = compared(Quarter(), ones, others)
        self.assertEqual(told, ("alike", 1, (5, 5)))
        self.assertEqual([type(told), type(told[1]), type(told[2])], [tuple, int, tuple])
        self.assertIs(type(compared(Quarter(), ones, others[:1])), tuple)
        self.assertEqual((ones, others), ([((0, 0), 0), ((1, 0), 1)], [((5, 5), 1), ((5, 6), 2)]))
        self.assertEqual(compared(Quarter(), ones, ones), ("alike", 0, (0, 0)))

    def test_nothing_hangs_on_what_was_asked_before(self):
        figures = [figure(Rules(4, rows), grown(rows, rows[0][0], 2)) for rows in (ONE, HOUSE, KOCH, DRAGON, SIX, EIGHTS)]
        asked = [(one, other) for one in figures for other in figures]
        told = [(compared(Quarter(), one, other), shared(Quarter(), one, other)) for one, other in asked]
        for number in reversed(range(len(asked))):
            one, other = asked[number]
            self.assertEqual((compared(Quarter(), one, other), shared(Quarter(), one, other)), told[number])


if __name__ == "__main__":
    unittest.main()
