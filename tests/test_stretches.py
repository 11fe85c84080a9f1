"""Points 2, 3 and 25: the tracks of stretches of grown words."""

import random
import unittest

from plainly import (
    DRAGON, EIGHTS, HOUSE, KOCH, MORSE, ONE, SAMPLES, SIX, SLOW, SWAP, TRIPLE, chosen_numbers, chosen_rows, deeds_of,
    grown, shown, walked,
)
from strokegrow.errors import NoLetter, NoPlace, NoRound
from strokegrow.growths import Growth
from strokegrow.pens import Quarter
from strokegrow.rules import Rules
from strokegrow.stretches import Drawing
from strokegrow.tracks import Track, still, track_of

FAR_ROUNDS = (-1, -2, -200, 201, 202, 10 ** 199, -(10 ** 199))
NO_LETTERS = ("", "q", "F", "fl", "lf", "ff", " ", "f ", "stroke", "f" * 1000)
DEEP = ((TRIPLE, "ff"), (MORSE, "ab"), (HOUSE, "lf"), (KOCH, "frrf"), (DRAGON, "x"), (SIX, "nsa"), (EIGHTS, "fedcbaab"))


def drawing_of(ways, rows, start):
    """The drawing of a new growth."""
    return Drawing(Growth(Rules(ways, rows), start))


def small_drawings(most):
    """Drawings in both pens, with a round and the deeds of its word, which has at most so many letters."""
    told = []
    strewn = [(chosen_rows(seed), chosen_rows(seed)[0][0]) for seed in range(30)]
    for number, (rows, start) in enumerate(list(SAMPLES) + strewn):
        for age in range(6):
            word = grown(rows, start, age)
            if len(word) <= most:
                ways = (4, 6)[number % 2]
                told.append((drawing_of(ways, rows, start), ways, age, deeds_of(rows, word)))
    return told


class Case(unittest.TestCase):
    def no_place(self, place, ask, *handed):
        with self.assertRaises(NoPlace, msg=handed) as caught:
            ask(*handed)
        self.assertEqual(caught.exception.place, place, handed)

    def no_letter(self, letter, ask, *handed):
        with self.assertRaises(NoLetter, msg=handed) as caught:
            ask(*handed)
        self.assertEqual(caught.exception.letter, letter, handed)


class WrittenOut(Case):
    def test_every_stretch_of_short_words(self):
        for drawing, ways, age, deeds in small_drawings(25):
            for begin in range(len(deeds) + 1):
                for end in range(begin, len(deeds) + 1):
                    self.assertEqual(drawing.stretch(age, begin, end).told(), shown(ways, deeds[begin:end]))

    def test_some_stretches_of_long_words(self):
        for drawing, ways, age, deeds in small_drawings(1500):
            for begin in chosen_numbers(age, 3, 0, len(deeds)):
                for end in chosen_numbers(begin, 3, begin, len(deeds)):
                    track = drawing.stretch(age, begin, end)
                    self.assertIsInstance(track, Track)
                    self.assertEqual(track.told(), shown(ways, deeds[begin:end]))

    def test_stretches_drawn_from_another_way(self):
        for drawing, ways, age, deeds in small_drawings(60):
            track = drawing.stretch(age, 0, len(deeds))
            for first in range(ways):
                told = shown(ways, deeds, first)
                self.assertEqual((track.shift(first), track.reach(first), track.touch(first)), (told[2], told[4], told[5]))

    def test_the_pen_at_every_place(self):
        for drawing, ways, age, deeds in small_drawings(60):
            for place, expected in enumerate(walked(ways, deeds)):
                told = drawing.pen_at(age, place)
                self.assertEqual(told, expected)
                self.assertEqual((type(told), type(told[0])), (tuple, tuple))

    def test_the_pen_in_long_words(self):
        for drawing, ways, age, deeds in small_drawings(1500):
            places = walked(ways, deeds)
            for place in chosen_numbers(age, 4, 0, len(deeds)):
                self.assertEqual(drawing.pen_at(age, place), places[place])

    def test_letters_grown(self):
        for number, (rows, start) in enumerate(SAMPLES):
            ways = (4, 6)[number % 2]
            drawing = drawing_of(ways, rows, start)
            for age in range(5):
                for row in rows:
                    word = grown(rows, row[0], age)
                    if len(word) < 1000:
                        track = drawing.whole(age, row[0])
                        self.assertIsInstance(track, Track)
                        self.assertEqual(track.told(), shown(ways, deeds_of(rows, word)))

    def test_letters_in_rounds_0_and_1(self):
        for ways in (4, 6):
            for rows, start in SAMPLES:
                rules = Rules(ways, rows)
                drawing = Drawing(Growth(rules, start))
                for letter, deed, word in rows:
                    self.assertEqual(drawing.whole(0, letter).told(), track_of(rules.pen(), [deed]).told())
                    deeds = [rules.deed(other) for other in word]
                    self.assertEqual(drawing.whole(1, letter).told(), track_of(rules.pen(), deeds).told())


class ByRule(Case):
    """Tracks in round 200 that are known otherwise."""

    def test_straight_lines(self):
        drawing = drawing_of(4, TRIPLE, "ff")
        many = 2 * 3 ** 200
        self.assertEqual(drawing.stretch(200, 0, many).told(), (many, 0, (many, 0), many, [many, 0, 0, 0], [many, 0, 0, 0], 0))
        self.assertEqual(drawing.pen_at(200, 10 ** 90), ((10 ** 90, 0), 0))
        self.assertEqual(drawing.pen_at(200, many), ((many, 0), 0))
        self.assertEqual(drawing.stretch(200, 10 ** 80, 10 ** 90).shift(), (10 ** 90 - 10 ** 80, 0))
        self.assertEqual(drawing.whole(200, "f").many(), 3 ** 200)

    def test_koch(self):
        drawing = drawing_of(6, KOCH, "f")
        # the least place at which the grown f comes farthest along way 0: in its last f
        touch = 1
        for age in range(201):
            track = drawing.whole(age, "f")
            size = 3 ** age
            self.assertEqual(track.strokes(), 4 ** age)
            self.assertEqual(track.turn(), 0)
            self.assertEqual(track.shift(), (size, 0))
            self.assertEqual(track.area(), -(9 ** age - 4 ** age) // 5)
            self.assertEqual(track.reach()[:2] + track.reach()[3:5], [2 * size, size, 0, 0])
            self.assertEqual(track.touch()[0], touch)
            if age < 200:
                # along way 1 the end of its second f lies as far as its own end, and is met first
                self.assertEqual(drawing.whole(age + 1, "f").touch()[1], track.many() + 1 + touch)
                touch = 3 * track.many() + 4 + touch
        self.assertEqual(drawing.pen_at(200, drawing.whole(200, "f").many()), ((3 ** 200, 0), 0))

    def test_snowflake(self):
        rules = Rules(6, KOCH)
        growth = Growth(rules, "frrfrrf")
        drawing = Drawing(growth)
        track = drawing.stretch(200, 0, growth.length(200))
        self.assertIs(track.closed(), True)
        # drawn to the right: one cell's half, and three sides with all that has grown on them, outward
        self.assertEqual(track.area(), -(9 ** 200) - 3 * (9 ** 200 - 4 ** 200) // 5)
        self.assertEqual(track.strokes(), 3 * 4 ** 200)

    def test_words_that_never_grow(self):
        drawing = drawing_of(4, SWAP, "abba")
        for age in (0, 1, 2, 199, 200):
            word = "abba" if age % 2 == 0 else "baab"
            self.assertEqual(drawing.stretch(age, 0, 4).told(), shown(4, deeds_of(SWAP, word)))
            self.assertEqual(drawing.whole(age, "a").told(), shown(4, ["left" if age % 2 == 0 else "stroke"]))
        slow = drawing_of(6, SLOW, "aa")
        word = ("a" + "bc" * 100) * 2
        for begin, end in ((0, 402), (1, 402), (200, 202), (201, 201), (7, 399)):
            self.assertEqual(slow.stretch(200, begin, end).told(), shown(6, deeds_of(SLOW, word[begin:end])))
        self.assertEqual(slow.pen_at(200, 399), walked(6, deeds_of(SLOW, word))[399])


class Deep(Case):
    """Stretches in round 200, cut and joined."""

    def test_wherever_it_is_cut(self):
        for number, (rows, start) in enumerate(DEEP):
            growth = Growth(Rules((4, 6)[number % 2], rows), start)
            drawing = Drawing(growth)
            length = growth.length(200)
            strewn = random.Random(number)
            for times in range(6):
                begin, cut, end = sorted(strewn.randint(0, length) for place in range(3))
                whole = drawing.stretch(200, begin, end)
                self.assertEqual(whole.many(), end - begin)
                for place in (begin, begin + 1, cut, end - 1, end):
                    parts = drawing.stretch(200, begin, place).joined(drawing.stretch(200, place, end))
                    self.assertEqual(parts.told(), whole.told())

    def test_a_round_is_its_start_letters_grown(self):
        for number, (rows, start) in enumerate(DEEP):
            rules = Rules((4, 6)[number % 2], rows)
            growth = Growth(rules, start)
            drawing = Drawing(growth)
            for age in (0, 1, 7, 200):
                track = still(rules.pen())
                for letter in start:
                    track = track.joined(drawing.whole(age, letter))
                self.assertEqual(drawing.stretch(age, 0, growth.length(age)).told(), track.told())

    def test_a_letter_grown_is_its_words_letters_grown_one_round_less(self):
        for number, (rows, start) in enumerate(DEEP):
            rules = Rules((6, 4)[number % 2], rows)
            drawing = Drawing(Growth(rules, start))
            for age in (1, 2, 3, 100, 199, 200):
                for letter in rules.letters():
                    track = still(rules.pen())
                    for other in rules.word(letter):
                        track = track.joined(drawing.whole(age - 1, other))
                    self.assertEqual(drawing.whole(age, letter).told(), track.told())
                    alone = Growth(rules, letter)
                    told = Drawing(alone).stretch(age, 0, alone.length(age)).told()
                    self.assertEqual(drawing.whole(age, letter).told(), told)

    def test_short_stretches_far_within(self):
        for number, (rows, start) in enumerate(DEEP):
            ways = (4, 6)[number % 2]
            growth = Growth(Rules(ways, rows), start)
            drawing = Drawing(growth)
            for begin in chosen_numbers(number, 4, 0, growth.length(200) - 400):
                part = growth.part(200, begin, begin + 400)
                self.assertEqual(drawing.stretch(200, begin, begin + 400).told(), shown(ways, deeds_of(rows, part)))

    def test_the_pen_goes_from_place_to_place(self):
        for number, (rows, start) in enumerate(DEEP):
            rules = Rules((4, 6)[number % 2], rows)
            growth = Growth(rules, start)
            drawing = Drawing(growth)
            for place in chosen_numbers(number, 5, 0, growth.length(200) - 1):
                spot, way = drawing.pen_at(200, place)
                deed = rules.deed(growth.letter_at(200, place))
                self.assertEqual(drawing.pen_at(200, place + 1), rules.pen().after(deed, spot, way))

    def test_a_reach_is_met_at_its_place_and_passed_at_none(self):
        for number, (rows, start) in enumerate(DEEP):
            rules = Rules((4, 6)[number % 2], rows)
            pen = rules.pen()
            growth = Growth(rules, start)
            drawing = Drawing(growth)
            length = growth.length(200)
            reach = drawing.stretch(200, 0, length).reach()
            touch = drawing.stretch(200, 0, length).touch()
            for way in range(pen.ways()):
                self.assertEqual(pen.along(way, drawing.pen_at(200, touch[way])[0]), reach[way])
                for place in chosen_numbers(way, 5, 0, length):
                    there = pen.along(way, drawing.pen_at(200, place)[0])
                    self.assertLessEqual(there, reach[way])
                    self.assertTrue(place >= touch[way] or there < reach[way])
                if touch[way] > 0:
                    self.assertLess(drawing.stretch(200, 0, touch[way] - 1).reach()[way], reach[way])

    def test_the_pen_at_the_ends(self):
        for number, (rows, start) in enumerate(DEEP):
            growth = Growth(Rules((4, 6)[number % 2], rows), start)
            drawing = Drawing(growth)
            for age in (0, 1, 200):
                length = growth.length(age)
                self.assertEqual(drawing.pen_at(age, 0), ((0, 0), 0))
                track = drawing.stretch(age, 0, length)
                self.assertEqual(drawing.pen_at(age, length), (track.shift(), track.turn()))


class Refused(Case):
    def test_no_round_ahead_of_all_else(self):
        drawing = drawing_of(4, HOUSE, "f")
        for age in FAR_ROUNDS:
            for letter in ("f", "l") + NO_LETTERS:
                self.assertRaises(NoRound, drawing.whole, age, letter)
            for place in (0, 1, -1, 10 ** 199):
                self.assertRaises(NoRound, drawing.pen_at, age, place)
                self.assertRaises(NoRound, drawing.stretch, age, place, 0)
                self.assertRaises(NoRound, drawing.stretch, age, 0, place)

    def test_no_letter(self):
        drawing = drawing_of(6, HOUSE, "f")
        for letter in NO_LETTERS:
            for age in (0, 1, 200):
                self.no_letter(letter, drawing.whole, age, letter)

    def test_letters_that_do_not_stand_in_the_round(self):
        drawing = drawing_of(4, SIX, "a")
        self.assertEqual(drawing.whole(1, "n").told(), shown(4, deeds_of(SIX, "nnsa")))

    def test_no_place(self):
        drawing = drawing_of(4, HOUSE, "f")
        for age, length in ((0, 1), (3, 15), (200, 2 ** 201 - 1)):
            for place in (-1, length + 1, -(10 ** 199), 10 ** 199):
                self.no_place(place, drawing.pen_at, age, place)
                for second in (-2, 0, length, length + 2, 10 ** 151):
                    self.no_place(place, drawing.stretch, age, place, second)
            for first in (0, length):
                for second in (length + 1, 10 ** 199, first - 1, -1, -(10 ** 199)):
                    self.no_place(second, drawing.stretch, age, first, second)
        self.no_place(4, drawing.stretch, 3, 5, 4)
        self.no_place(0, drawing.stretch, 3, 5, 0)

    def test_never_too_long(self):
        growth = Growth(Rules(4, TRIPLE), "f")
        drawing = Drawing(growth)
        for many in (400, 401, 729):
            self.assertEqual(drawing.stretch(6, 0, many).many(), many)
        for many in (400, 401, 10 ** 90, growth.length(200)):
            self.assertEqual(drawing.stretch(200, 0, many).shift(), (many, 0))

    def test_from_a_place_to_itself(self):
        for ways in (4, 6):
            rules = Rules(ways, KOCH)
            growth = Growth(rules, "frrf")
            drawing = Drawing(growth)
            for age in (0, 1, 200):
                length = growth.length(age)
                for place in (0, 1, length // 2, length - 1, length):
                    self.assertEqual(drawing.stretch(age, place, place).told(), still(rules.pen()).told())

    def test_one_letter_that_never_grows(self):
        drawing = drawing_of(4, ONE, "f")
        for age in (0, 1, 200):
            self.assertEqual(drawing.stretch(age, 0, 1).told(), track_of(Quarter(), ["stroke"]).told())
            self.assertEqual(drawing.pen_at(age, 1), ((1, 0), 0))
            self.no_place(2, drawing.pen_at, age, 2)


class Kept(Case):
    def answers(self, drawing, asked):
        told = []
        for name, handed in asked:
            try:
                answer = getattr(drawing, name)(*handed)
                told.append(answer.told() if isinstance(answer, Track) else answer)
            except NoRound:
                told.append(NoRound)
            except NoLetter as refusal:
                told.append((NoLetter, refusal.letter))
            except NoPlace as refusal:
                told.append((NoPlace, refusal.place))
        return told

    def test_another_order_has_the_same_answers(self):
        for rows, start in ((HOUSE, "lf"), (KOCH, "frrf"), (SLOW, "aac")):
            asked = [("whole", (201, "f")), ("stretch", (-1, 0, 0)), ("pen_at", (201, 0))]
            for age in (0, 1, 2, 60, 200):
                asked.extend(("whole", (age, letter)) for letter in "flrabc")
                for place in (-1, 0, 1, 2, 5, 10 ** 30):
                    asked.append(("pen_at", (age, place)))
                    asked.extend(("stretch", (age, begin, place)) for begin in (-1, 0, 1, 3))
            alone = [self.answers(drawing_of(6, rows, start), [question])[0] for question in asked]
            self.assertEqual(self.answers(drawing_of(6, rows, start), asked), alone)
            drawing = drawing_of(6, rows, start)
            self.assertEqual(self.answers(drawing, asked[::-1])[::-1], alone)
            self.assertEqual(self.answers(drawing, asked), alone)

    def test_told_lists_are_the_askers_own(self):
        drawing = drawing_of(4, HOUSE, "f")
        expected = shown(4, deeds_of(HOUSE, "flf"))
        for ask in (lambda: drawing.whole(1, "f"), lambda: drawing.stretch(1, 0, 3)):
            for times in range(2):
                track = ask()
                for told in (track.reach(), track.touch(), track.told()[4], track.told()[5]):
                    told[0] = 10 ** 9
                    told.pop()
                self.assertEqual(track.told(), expected)
                self.assertEqual(ask().told(), expected)
        self.assertEqual(drawing.stretch(2, 0, 7).told(), shown(4, deeds_of(HOUSE, "flflflf")))

    def test_told_tracks_stay(self):
        growth = Growth(Rules(4, HOUSE), "f")
        drawing = Drawing(growth)
        one = drawing.whole(1, "f")
        whole = drawing.stretch(1, 0, 3)
        one.joined(whole)
        whole.joined(one)
        drawing.whole(200, "f")
        expected = shown(4, deeds_of(HOUSE, "flf"))
        self.assertEqual(one.told(), expected)
        self.assertEqual(whole.told(), expected)
        self.assertEqual(drawing.whole(1, "f").told(), expected)
        self.assertEqual(growth.length(1), 3)
        self.assertEqual(growth.counts(200), {"f": 2 ** 200, "l": 2 ** 200 - 1})

    def test_a_growth_that_was_asked_before(self):
        growth = Growth(Rules(4, HOUSE), "f")
        growth.length(5)
        drawing = Drawing(growth)
        self.assertEqual(drawing.pen_at(2, 7), walked(4, deeds_of(HOUSE, "flflflf"))[7])
        self.assertEqual(Drawing(growth).pen_at(1, 3), walked(4, deeds_of(HOUSE, "flf"))[3])
        self.assertEqual(growth.part(2, 0, 7), "flflflf")


if __name__ == "__main__":
    unittest.main()
