"""Points 4 to 7: ways, turning, steps, added and cross, along, the five deeds."""

import unittest

from strokegrow.errors import NoDeed, NoPen
from strokegrow.pens import Pen, Quarter, Sixth, added, cross, pen_of

GREAT = 10 ** 199
SPOTS = ((0, 0), (1, 0), (0, 1), (3, 5), (-2, 7), (4, -9), (-6, -1), (GREAT, -3), (-7, GREAT - 1))
STEPS = {
    4: ((1, 0), (0, 1), (-1, 0), (0, -1)),
    6: ((1, 0), (0, 1), (-1, 1), (-1, 0), (0, -1), (1, -1)),
}
# (3, 5) turned to the left 0, 1, 2 .. times
TURNS = {
    4: ((3, 5), (-5, 3), (-3, -5), (5, -3)),
    6: ((3, 5), (-5, 8), (-8, 3), (-3, -5), (5, -8), (8, -3)),
}
# how far (3, 5) lies along each way
FAR = {4: (3, 5, -3, -5), 6: (11, 13, 2, -11, -13, -2)}
NO_DEEDS = (
    "", " ", "Stroke", "STROKE", "strok", "strokes", "stroke ", " stroke", "Step", "ste", "steps", "Left", "LEFT",
    "lef", "lefts", "Right", "righ", "rights", "Rest", "REST", "res", "rests", "r", "s", "t", "turn", "back",
    "step left", "steprest", "x" * 1000,
)


def both():
    """Each pen with its number of ways."""
    return ((4, Quarter()), (6, Sixth()))


def left(ways, spot):
    """One turn to the left, as point 4 tells it."""
    x, y = spot
    return (-y, x) if ways == 4 else (-y, x + y)


class Kinds(unittest.TestCase):
    def test_right_under_pen(self):
        self.assertEqual(Quarter.__bases__, (Pen,))
        self.assertEqual(Sixth.__bases__, (Pen,))

    def test_pen_of(self):
        self.assertIs(type(pen_of(4)), Quarter)
        self.assertIs(type(pen_of(6)), Sixth)
        self.assertEqual(pen_of(4).ways(), 4)
        self.assertEqual(pen_of(6).ways(), 6)

    def test_pen_of_another_number(self):
        for ways in (0, 1, 2, 3, 5, 7, 8, 9, 10, 12, 24, 46, -4, -6, GREAT, -GREAT, 10 * GREAT + 4, 10 * GREAT + 6):
            with self.assertRaises(NoPen):
                pen_of(ways)

    def test_a_refused_number_can_be_asked_again(self):
        for times in range(2):
            with self.assertRaises(NoPen):
                pen_of(5)
            self.assertEqual(pen_of(4).ways(), 4)


class Ways(unittest.TestCase):
    def test_ways(self):
        self.assertEqual(Quarter().ways(), 4)
        self.assertEqual(Sixth().ways(), 6)

    def test_way_of_is_the_rest(self):
        for ways, pen in both():
            for number in range(-3 * ways, 3 * ways + 1):
                way = pen.way_of(number)
                self.assertTrue(0 <= way < ways)
                self.assertEqual((number - way) % ways, 0)

    def test_way_of_below_nought(self):
        self.assertEqual([Quarter().way_of(number) for number in (-1, -2, -3, -4, -5)], [3, 2, 1, 0, 3])
        self.assertEqual([Sixth().way_of(number) for number in (-1, -2, -5, -6, -7)], [5, 4, 1, 0, 5])

    def test_way_of_great_numbers(self):
        for ways, pen in both():
            for rest in range(ways):
                self.assertEqual(pen.way_of(ways * (GREAT // 7) + rest), rest)
                self.assertEqual(pen.way_of(rest - ways * (GREAT // 7)), rest)


class Turning(unittest.TestCase):
    def test_turned_by_each_way(self):
        for ways, pen in both():
            for by in range(ways):
                self.assertEqual(pen.turned((3, 5), by), TURNS[ways][by])

    def test_once_to_the_left(self):
        for ways, pen in both():
            for spot in SPOTS:
                self.assertEqual(pen.turned(spot, 1), left(ways, spot))

    def test_turned_to_the_right_undoes(self):
        for ways, pen in both():
            for spot in SPOTS:
                for by in range(2 * ways + 2):
                    self.assertEqual(pen.turned(pen.turned(spot, by), -by), spot)
                    self.assertEqual(pen.turned(pen.turned(spot, -by), by), spot)

    def test_turned_below_nought(self):
        self.assertEqual(Quarter().turned((3, 5), -1), (5, -3))
        self.assertEqual(Sixth().turned((3, 5), -1), (8, -3))
        self.assertEqual(Sixth().turned((3, 5), -2), (5, -8))

    def test_so_many_times(self):
        for ways, pen in both():
            for spot in SPOTS:
                turned = spot
                for by in range(3 * ways):
                    self.assertEqual(pen.turned(spot, by), turned)
                    turned = left(ways, turned)

    def test_full_turns_lead_to_itself(self):
        for ways, pen in both():
            for spot in SPOTS:
                for times in (-GREAT // 9, -3, -1, 0, 1, 2, 17, GREAT // 9):
                    self.assertEqual(pen.turned(spot, times * ways), spot)

    def test_great_numbers(self):
        for ways, pen in both():
            for rest in range(ways):
                for times in (GREAT // 9, -GREAT // 9):
                    self.assertEqual(pen.turned((3, 5), times * ways + rest), TURNS[ways][rest])

    def test_two_hundred_nines(self):
        number = 10 ** 200 - 1
        self.assertEqual(Quarter().turned((3, 5), number), TURNS[4][3])
        self.assertEqual(Sixth().turned((3, 5), number), TURNS[6][3])
        self.assertEqual(Quarter().turned((3, 5), -number), TURNS[4][1])
        self.assertEqual(Sixth().turned((3, 5), -number), TURNS[6][3])

    def test_a_spot_is_a_tuple(self):
        for ways, pen in both():
            for by in (0, 1, -1, ways):
                self.assertIs(type(pen.turned((3, 5), by)), tuple)

    def test_the_middle_stays(self):
        for ways, pen in both():
            for by in range(-ways, ways + 1):
                self.assertEqual(pen.turned((0, 0), by), (0, 0))


class Steps(unittest.TestCase):
    def test_each_step(self):
        for ways, pen in both():
            self.assertEqual(tuple(pen.step(way) for way in range(ways)), STEPS[ways])

    def test_a_step_is_the_first_turned(self):
        for ways, pen in both():
            for way in range(ways):
                self.assertEqual(pen.step(way), pen.turned((1, 0), way))

    def test_added(self):
        self.assertEqual(added((1, 2), (30, 40)), (31, 42))
        self.assertEqual(added((1, 2), (-1, -2)), (0, 0))
        self.assertEqual(added((GREAT, -GREAT), (1, -1)), (GREAT + 1, -GREAT - 1))
        self.assertIs(type(added((1, 2), (3, 4))), tuple)

    def test_all_steps_added_lead_back(self):
        for ways, pen in both():
            spot = (0, 0)
            for way in range(ways):
                spot = added(spot, pen.step(way))
            self.assertEqual(spot, (0, 0))

    def test_cross(self):
        self.assertEqual(cross((1, 0), (0, 1)), 1)
        self.assertEqual(cross((0, 1), (1, 0)), -1)
        self.assertEqual(cross((2, 3), (5, 7)), -1)
        self.assertEqual(cross((2, -3), (-5, 11)), 7)
        self.assertEqual(cross((4, 6), (2, 3)), 0)
        self.assertEqual(cross((GREAT, 1), (1, GREAT)), GREAT * GREAT - 1)

    def test_cross_of_two_turned_alike_stays(self):
        for ways, pen in both():
            for one in SPOTS:
                for other in SPOTS:
                    for by in (-GREAT, -1, 1, 2, 3, 4, 5, ways, GREAT + 1):
                        self.assertEqual(cross(pen.turned(one, by), pen.turned(other, by)), cross(one, other))


class Along(unittest.TestCase):
    def test_each_way(self):
        for ways, pen in both():
            self.assertEqual(tuple(pen.along(way, (3, 5)) for way in range(ways)), FAR[ways])

    def test_four_ways_of_any_spot(self):
        for x, y in SPOTS:
            told = [Quarter().along(way, (x, y)) for way in range(4)]
            self.assertEqual(told, [x, y, -x, -y])

    def test_six_ways_of_any_spot(self):
        for x, y in SPOTS:
            told = [Sixth().along(way, (x, y)) for way in range(6)]
            half = [2 * x + y, x + 2 * y, y - x]
            self.assertEqual(told, half + [-far for far in half])

    def test_turned_with_the_way(self):
        for ways, pen in both():
            for spot in SPOTS:
                for way in range(ways):
                    for by in (-GREAT, -ways, -3, -1, 0, 1, 2, 3, 4, 5, 6, 7, GREAT):
                        far = pen.along(pen.way_of(way + by), pen.turned(spot, by))
                        self.assertEqual(far, pen.along(way, spot))

    def test_a_step_along_its_own_way(self):
        for way in range(4):
            self.assertEqual(Quarter().along(way, Quarter().step(way)), 1)
        for way in range(6):
            self.assertEqual(Sixth().along(way, Sixth().step(way)), 2)


class Deeds(unittest.TestCase):
    def test_going(self):
        for ways, pen in both():
            for deed in ("stroke", "step"):
                for way in range(ways):
                    for spot in SPOTS:
                        step = STEPS[ways][way]
                        behind = ((spot[0] + step[0], spot[1] + step[1]), way)
                        self.assertEqual(pen.after(deed, spot, way), behind)

    def test_turning(self):
        for ways, pen in both():
            for way in range(ways):
                for spot in SPOTS:
                    self.assertEqual(pen.after("left", spot, way), (spot, (way + 1) % ways))
                    self.assertEqual(pen.after("right", spot, way), (spot, (way - 1) % ways))

    def test_turning_beyond_the_last_way_and_the_first(self):
        self.assertEqual(Quarter().after("left", (8, 9), 3), ((8, 9), 0))
        self.assertEqual(Quarter().after("right", (8, 9), 0), ((8, 9), 3))
        self.assertEqual(Sixth().after("left", (8, 9), 5), ((8, 9), 0))
        self.assertEqual(Sixth().after("right", (8, 9), 0), ((8, 9), 5))

    def test_rest(self):
        for ways, pen in both():
            for way in range(ways):
                for spot in SPOTS:
                    self.assertEqual(pen.after("rest", spot, way), (spot, way))

    def test_told_as_tuples(self):
        for ways, pen in both():
            for deed in ("stroke", "step", "left", "right", "rest"):
                told = pen.after(deed, (1, 2), 1)
                self.assertIs(type(told), tuple)
                self.assertIs(type(told[0]), tuple)

    def test_no_deed(self):
        for ways, pen in both():
            for way in range(ways):
                for text in NO_DEEDS:
                    with self.assertRaises(NoDeed, msg=text):
                        pen.after(text, (0, 0), way)

    def test_a_refusal_changes_nothing(self):
        for ways, pen in both():
            for times in range(2):
                with self.assertRaises(NoDeed):
                    pen.after("turn", (2, 3), 1)
                self.assertEqual(pen.after("stroke", (2, 3), 1), ((2, 4), 1))
                self.assertEqual(pen.ways(), ways)


if __name__ == "__main__":
    unittest.main()
