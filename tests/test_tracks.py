"""Points 2 and 19 to 24: tracks held against a pen that does the deeds one by one."""

import unittest

from plainly import DEEDS, chosen_deeds, far, shown, walked
from strokegrow.errors import NoDeed
from strokegrow.pens import Quarter, Sixth
from strokegrow.tracks import Track, still, track_of

PENS = ((4, Quarter()), (6, Sixth()))
NO_DEEDS = ("", "Stroke", "strokes", " stroke", "left ", "f", "turn", "stroke left", "s" * 1000)
SQUARE = ["stroke", "left"] * 4
TRIANGLE = ["stroke", "left", "left"] * 3
HEXAGON = ["stroke", "left"] * 6
MIRRORED = {"left": "right", "right": "left"}


def mirrored(deeds):
    """The deeds with left and right changed for one another."""
    return [MIRRORED.get(deed, deed) for deed in deeds]


def samples():
    """Rows of deeds: none, each one alone, each two, and longer ones."""
    told = [[]] + [[deed] for deed in DEEDS] + [[one, other] for one in DEEDS for other in DEEDS]
    told += [SQUARE, TRIANGLE, HEXAGON, mirrored(SQUARE), mirrored(TRIANGLE), mirrored(HEXAGON)]
    return told + [chosen_deeds(seed, 3 + 2 * seed) for seed in range(30)]


class Case(unittest.TestCase):
    def tells(self, track, ways, deeds):
        """The track tells what the pen shows that does these deeds, from each first way."""
        many, turn, shift, strokes, reach, touch, area = shown(ways, deeds)
        self.assertIsInstance(track, Track)
        self.assertEqual(track.told(), (many, turn, shift, strokes, reach, touch, area), deeds)
        self.assertEqual(track.many(), many)
        self.assertEqual(track.turn(), turn)
        self.assertEqual(track.strokes(), strokes)
        self.assertEqual(track.area(), area)
        self.assertIs(track.closed(), shift == (0, 0))
        self.assertEqual((track.shift(), track.reach(), track.touch()), (shift, reach, touch))
        for first in range(ways):
            drawn = shown(ways, deeds, first)
            self.assertEqual(track.shift(first), drawn[2], (deeds, first))
            self.assertEqual(track.reach(first), drawn[4], (deeds, first))
            self.assertEqual(track.touch(first), drawn[5], (deeds, first))
            self.assertEqual((drawn[0], drawn[1], drawn[3], drawn[6]), (many, turn, strokes, area))


class OneByOne(Case):
    def test_no_deeds(self):
        for ways, pen in PENS:
            for track in (still(pen), track_of(pen, [])):
                self.assertEqual(track.told(), (0, 0, (0, 0), 0, [0] * ways, [0] * ways, 0))
                self.assertIs(track.closed(), True)
                self.tells(track, ways, [])

    def test_each_sample(self):
        for ways, pen in PENS:
            for deeds in samples():
                self.tells(track_of(pen, deeds), ways, deeds)

    def test_known_tracks(self):
        four = Quarter()
        six = Sixth()
        self.assertEqual(track_of(four, ["stroke"]).told(), (1, 0, (1, 0), 1, [1, 0, 0, 0], [1, 0, 0, 0], 0))
        self.assertEqual(
            track_of(six, ["step"]).told(), (1, 0, (1, 0), 0, [2, 1, 0, 0, 0, 1], [1, 1, 0, 0, 0, 1], 0)
        )
        self.assertEqual(track_of(four, ["right"]).told(), (1, 3, (0, 0), 0, [0] * 4, [0] * 4, 0))
        self.assertEqual(track_of(six, ["right"]).told(), (1, 5, (0, 0), 0, [0] * 6, [0] * 6, 0))
        self.assertEqual(
            track_of(four, ["stroke", "left", "step", "rest"]).told(), (4, 1, (1, 1), 1, [1, 1, 0, 0], [1, 3, 0, 0], 1)
        )

    def test_400_deeds(self):
        for ways, pen in PENS:
            for deeds in (["stroke"] * 400, ["left"] * 400, ["right"] * 399 + ["step"], ["rest"] * 400):
                self.tells(track_of(pen, deeds), ways, deeds)
            for seed in range(3):
                deeds = chosen_deeds(seed, 400)
                self.tells(track_of(pen, deeds), ways, deeds)

    def test_kinds(self):
        for ways, pen in PENS:
            told = track_of(pen, chosen_deeds(1, 30)).told()
            self.assertEqual([type(thing) for thing in told], [int, int, tuple, int, list, list, int])
            self.assertEqual({type(number) for number in told[2] + tuple(told[4]) + tuple(told[5])}, {int})

    def test_no_deed(self):
        for ways, pen in PENS:
            for text in NO_DEEDS:
                for at in (0, 1, 5, 9):
                    deeds = chosen_deeds(2, 10)
                    deeds[at] = text
                    self.assertRaises(NoDeed, track_of, pen, deeds)
                self.assertRaises(NoDeed, track_of, pen, [text])
                self.assertRaises(NoDeed, track_of, pen, ["rest"] * 399 + [text])
                self.assertRaises(NoDeed, track_of, pen, [text] * 3)


class Joined(Case):
    def test_wherever_it_is_cut(self):
        for ways, pen in PENS:
            for deeds in samples():
                for cut in range(len(deeds) + 1):
                    joined = track_of(pen, deeds[:cut]).joined(track_of(pen, deeds[cut:]))
                    self.assertEqual(joined.told(), shown(ways, deeds), (deeds, cut))
            deeds = chosen_deeds(77, 60)
            for cut in range(61):
                self.tells(track_of(pen, deeds[:cut]).joined(track_of(pen, deeds[cut:])), ways, deeds)

    def test_no_deeds_on_either_side(self):
        for ways, pen in PENS:
            for deeds in samples():
                track = track_of(pen, deeds)
                self.assertEqual(still(pen).joined(track).told(), track.told())
                self.assertEqual(track.joined(still(pen)).told(), track.told())
                self.assertEqual(still(pen).joined(still(pen)).told(), still(pen).told())

    def test_any_order_of_joining(self):
        for ways, pen in PENS:
            for seed in range(20):
                rows = [chosen_deeds(100 * seed + number, seed % 7 + number) for number in range(4)]
                one, two, three, four = [track_of(pen, row) for row in rows]
                expected = shown(ways, rows[0] + rows[1] + rows[2] + rows[3])
                self.assertEqual(one.joined(two).joined(three).joined(four).told(), expected)
                self.assertEqual(one.joined(two.joined(three.joined(four))).told(), expected)
                self.assertEqual(one.joined(two).joined(three.joined(four)).told(), expected)
                self.assertEqual(one.joined(two.joined(three)).joined(four).told(), expected)

    def test_a_new_track_and_both_stay(self):
        for ways, pen in PENS:
            one_deeds = chosen_deeds(5, 17)
            other_deeds = chosen_deeds(6, 23)
            one = track_of(pen, one_deeds)
            other = track_of(pen, other_deeds)
            joined = one.joined(other)
            self.assertIsNot(joined, one)
            self.assertIsNot(joined, other)
            self.tells(one, ways, one_deeds)
            self.tells(other, ways, other_deeds)
            self.tells(joined, ways, one_deeds + other_deeds)
            self.tells(other.joined(one), ways, other_deeds + one_deeds)
            self.tells(one.joined(one), ways, one_deeds + one_deeds)
            self.tells(one, ways, one_deeds)
            for track in (one.joined(still(pen)), still(pen).joined(one)):
                self.assertIsNot(track, one)

    def test_pens_of_as_many_ways_that_are_not_the_same(self):
        for kind, ways in ((Quarter, 4), (Sixth, 6)):
            joined = track_of(kind(), SQUARE).joined(track_of(kind(), HEXAGON))
            self.tells(joined, ways, SQUARE + HEXAGON)


class AgainAndAgain(Case):
    """Tracks joined with themselves, far beyond what can be done deed by deed."""

    def doubled(self, track, times):
        for time in range(times):
            track = track.joined(track)
        return track

    def test_doubled_a_few_times(self):
        for ways, pen in PENS:
            for seed in range(10):
                deeds = chosen_deeds(seed, 5 + seed)
                for times in range(5):
                    self.assertEqual(self.doubled(track_of(pen, deeds), times).told(), shown(ways, deeds * 2 ** times))

    def test_straight_on(self):
        # without a turn each further time is a shift along the same straight way
        for ways, pen in PENS:
            seen = 0
            for seed in range(60):
                deeds = chosen_deeds(seed, 12)
                many, turn, shift, strokes, reach, touch, area = shown(ways, deeds)
                if turn != 0:
                    continue
                seen += 1
                for times in (40, 61, 330):
                    others = 2 ** times - 1
                    on = [far(ways, way, shift) for way in range(ways)]
                    expected = (
                        many * 2 ** times,
                        0,
                        (shift[0] * 2 ** times, shift[1] * 2 ** times),
                        strokes * 2 ** times,
                        [reach[way] + max(0, on[way] * others) for way in range(ways)],
                        [touch[way] + (many * others if on[way] > 0 else 0) for way in range(ways)],
                        area * 2 ** times,
                    )
                    self.assertEqual(self.doubled(track_of(pen, deeds), times).told(), expected, deeds)
            self.assertGreater(seen, 3)

    def test_round_and_round(self):
        # deeds that turn come back after as many times as the pen has ways, and then draw the same again
        for ways, pen in PENS:
            for seed in range(20):
                deeds = chosen_deeds(seed, 7) * ways
                many, turn, shift, strokes, reach, touch, area = shown(ways, deeds)
                if shift != (0, 0):
                    continue
                for times in (41, 200):
                    self.assertEqual(
                        self.doubled(track_of(pen, deeds), times).told(),
                        (many * 2 ** times, 0, shift, strokes * 2 ** times, reach, touch, area * 2 ** times),
                    )

    def test_more_than_a_million_millions(self):
        track = self.doubled(track_of(Quarter(), SQUARE), 40)
        self.assertGreater(track.many(), 10 ** 12)
        self.assertEqual(track.told(), (2 ** 43, 0, (0, 0), 2 ** 42, [1, 1, 0, 0], [1, 3, 0, 0], 2 ** 41))
        self.assertIs(track.closed(), True)
        far_on = self.doubled(track_of(Sixth(), ["left", "stroke", "right"]), 41)
        self.assertEqual(far_on.shift(), (0, 2 ** 41))
        self.assertEqual(far_on.shift(5), (2 ** 41, 0))
        self.assertEqual(far_on.reach(), [2 ** 41, 2 ** 42, 2 ** 41, 0, 0, 0])
        self.assertEqual(far_on.touch(), [3 * 2 ** 41 - 1] * 3 + [0] * 3)
        self.assertEqual(far_on.reach(1), [0, 2 ** 41, 2 ** 42, 2 ** 41, 0, 0])
        self.assertIs(far_on.closed(), False)


class Reaches(Case):
    def test_never_below_0(self):
        for ways, pen in PENS:
            for first in range(ways):
                track = track_of(pen, ["left"] * first + ["stroke"] * 9)
                for way in range(ways):
                    self.assertEqual(track.reach()[way], max(0, 9 * far(ways, way, walked(ways, ["step"], first)[1][0])))

    def test_the_least_of_several_places(self):
        # out and back, twice: the farthest spot is met at several places
        out_and_back = ["stroke", "stroke", "left", "rest", "left", "stroke", "stroke", "left", "left"]
        track = track_of(Quarter(), out_and_back * 2)
        self.assertEqual(track.reach(), [2, 0, 0, 0])
        self.assertEqual(track.touch(), [2, 0, 0, 0])
        joined = track_of(Quarter(), out_and_back).joined(track_of(Quarter(), out_and_back))
        self.assertEqual(joined.touch(), [2, 0, 0, 0])
        self.assertEqual(joined.touch(2), [0, 0, 2, 0])
        sideways = track_of(Quarter(), ["stroke"] * 3 + ["left", "stroke", "left", "stroke"])
        self.assertEqual(sideways.reach(), [3, 1, 0, 0])
        self.assertEqual(sideways.touch(), [3, 5, 0, 0])
        resting = track_of(Sixth(), ["rest", "rest", "stroke", "rest", "left", "left", "stroke", "rest"])
        self.assertEqual(resting.reach(), [2, 2, 1, 0, 0, 1])
        self.assertEqual(resting.touch(), [3, 7, 7, 0, 0, 3])

    def test_met_in_the_second_alone(self):
        one = track_of(Quarter(), ["stroke", "left"])
        other = track_of(Quarter(), ["rest", "stroke", "stroke"])
        self.assertEqual(one.joined(other).reach(), [1, 2, 0, 0])
        self.assertEqual(one.joined(other).touch(), [1, 5, 0, 0])

    def test_met_at_the_told_place_and_passed_at_none(self):
        for ways, pen in PENS:
            for seed in range(25):
                deeds = chosen_deeds(seed + 500, 80)
                track = track_of(pen, deeds)
                for first in range(ways):
                    spots = [spot for spot, way in walked(ways, deeds, first)]
                    for way in range(ways):
                        fars = [far(ways, way, spot) for spot in spots]
                        self.assertEqual(fars[track.touch(first)[way]], track.reach(first)[way])
                        self.assertLessEqual(max(fars), track.reach(first)[way])
                        self.assertNotIn(track.reach(first)[way], fars[:track.touch(first)[way]])


class Areas(Case):
    def test_to_the_left_above_0_and_to_the_right_below(self):
        for pen, deeds, area in (
            (Quarter(), SQUARE, 2),
            (Sixth(), TRIANGLE, 1),
            (Sixth(), HEXAGON, 6),
            (Quarter(), (["stroke"] * 3 + ["left"] + ["step"] * 2 + ["left"]) * 2, 12),
            (Sixth(), (["stroke"] * 5 + ["left"] * 2) * 3, 25),
            (Quarter(), SQUARE * 10, 20),
        ):
            left = track_of(pen, deeds)
            right = track_of(pen, mirrored(deeds))
            self.assertIs(left.closed(), True)
            self.assertIs(right.closed(), True)
            self.assertEqual(left.area(), area)
            self.assertEqual(right.area(), -area)
            self.assertEqual(left.joined(right).area(), 0)

    def test_with_the_straight_way_back(self):
        self.assertEqual(track_of(Quarter(), ["stroke"] * 3 + ["left"] + ["stroke"] * 2).area(), 6)
        self.assertEqual(track_of(Quarter(), ["stroke"] * 3 + ["right"] + ["stroke"] * 2).area(), -6)
        self.assertEqual(track_of(Sixth(), ["stroke", "left", "stroke"]).area(), 1)
        self.assertEqual(track_of(Sixth(), ["stroke", "right", "stroke"]).area(), -1)
        self.assertEqual(track_of(Sixth(), ["stroke"] * 5).area(), 0)

    def test_where_it_begins_is_no_matter(self):
        around = ["stroke"] * 4 + ["left"] + ["step"] * 2 + ["left"] + ["stroke"] * 4 + ["left"] + ["stroke"] * 2 + ["left"]
        for cut in range(len(around)):
            track = track_of(Quarter(), around[cut:] + around[:cut])
            self.assertEqual(track.area(), 16)
            self.assertTrue(track.closed())

    def test_closed(self):
        for pen, deeds, closed in (
            (Quarter(), [], True),
            (Quarter(), ["left"], True),
            (Quarter(), ["rest"], True),
            (Quarter(), ["step"], False),
            (Quarter(), ["stroke", "left", "left", "step"], True),
            (Sixth(), ["stroke", "left", "left", "left", "step"], True),
            (Sixth(), ["left", "left", "left", "stroke"], False),
            (Sixth(), ["left", "stroke"], False),
            (Quarter(), TRIANGLE, False),
        ):
            self.assertIs(track_of(pen, deeds).closed(), closed, deeds)


class Kept(Case):
    def test_deeds_that_are_handed_in(self):
        for ways, pen in PENS:
            deeds = chosen_deeds(9, 40)
            handed = list(deeds)
            track = track_of(pen, handed)
            self.assertEqual(handed, deeds)
            handed.reverse()
            handed[0] = "none"
            handed.pop()
            self.tells(track, ways, deeds)
            handed.clear()
            self.tells(track, ways, deeds)
            wrong = ["stroke", "no", "left"]
            self.assertRaises(NoDeed, track_of, pen, wrong)
            self.assertEqual(wrong, ["stroke", "no", "left"])

    def test_told_lists_are_the_askers_own(self):
        for ways, pen in PENS:
            deeds = chosen_deeds(11, 40)
            joined = track_of(pen, deeds[:20]).joined(track_of(pen, deeds[20:]))
            for track, done in ((track_of(pen, deeds), deeds), (still(pen), []), (joined, deeds)):
                for ask in (track.reach, track.touch, lambda first: track.told()[4], lambda first: track.told()[5]):
                    for first in range(ways):
                        one = ask(first)
                        other = ask(first)
                        self.assertIsNot(one, other)
                        kept = list(one)
                        one[0] = 10 ** 6
                        one.pop()
                        self.assertEqual(other, kept)
                        other.clear()
                        self.assertEqual(ask(first), kept)
                self.tells(track, ways, done)
                self.tells(track.joined(track), ways, done + done)

    def test_lists_of_a_told_tuple_stay_when_tracks_are_joined(self):
        for ways, pen in PENS:
            deeds = chosen_deeds(12, 30)
            track = track_of(pen, deeds)
            told = track.told()
            reach = track.reach(1)
            track.joined(track).joined(track)
            self.assertEqual(told, shown(ways, deeds))
            self.assertEqual(reach, shown(ways, deeds, 1)[4])

    def test_what_is_asked_first_is_no_matter(self):
        for ways, pen in PENS:
            deeds = chosen_deeds(13, 30)
            track = track_of(pen, deeds)
            for first in reversed(range(ways)):
                track.reach(first)
                track.touch(first)
                track.shift(first)
            self.tells(track, ways, deeds)


if __name__ == "__main__":
    unittest.main()
