"""Points 2, 33 and 34: the lines of a desk, their answers, what is refused, and undo."""

import random
import unittest

from plainly import DRAGON, EIGHTS, HOUSE, KOCH, SIX, SWAP, TRIPLE, chosen_numbers, counted, deeds_of, grown, shown, walked
from strokegrow.desk import Desk
from strokegrow.elders import elders
from strokegrow.errors import (
    GrowError, NoLetter, NoLine, NoPen, NoPlace, NoRound, NoRules, NoText, NothingDone, NoWord, TooLong,
)
from strokegrow.growths import Growth
from strokegrow.rules import Rules
from strokegrow.stretches import Drawing
from strokegrow.texts import read_rules, rules_text

FIRST = "4; f stroke f / f"
HOUSE_TEXT = "4; f stroke flf; l left l"
VALUES = ("row", "at", "which", "letter", "place", "line")
# texts that are none of the lines, whatever the desk holds
NO_LINES = (
    "", " ", "  ", "f", "4", "help", "ready", "none", "ROUND",
    # the line rules without any blank, or with other words ahead of it
    "rules", "rule", "rules;4; f stroke f", "Rules 4; f stroke f", "RULES 4; f stroke f", " rules 4; f stroke f",
    "ruless 4; f stroke f", "rule 4; f stroke f", "rules4; f stroke f", "4; f stroke f",
    # blanks
    " show", "show ", "show  ", " undo", "undo ", " start f", "start f ", "start  f", "start ", "start", "start  ",
    " length 1", "length 1 ", "length  1", "length ", "length", "letter 0  0", "letter  0 0", "letter 0 0 ",
    " letter 0 0", "place 0  f 0", "place 0 f  0", "place 0 f 0 ", " place 0 f 0", "place  0 f 0", "place 0  0",
    "counts 0  0", "counts 0 0 ", "pen 0  0", " pen 0 0", "reach 0 0  0", "reach 0 0 0 ", "area  0 0 0", "area 0 0 ",
    "part 0 0  0", " part 0 0 0", "elders  f", "elders f ", " elders f", "elders ", "elders",
    # a word more or less
    "show f", "show 0", "undo 1", "undo undo", "start f f", "start f 1", "length 1 1", "letter 0", "letter", "letter 0 0 0",
    "place 0 f", "place 0", "place", "place f 0", "place 0 0", "place 0 f 0 0", "counts", "counts 0", "counts 0 0 0", "pen",
    "pen 0", "pen 0 0 0", "reach", "reach 0", "reach 0 0", "reach 0 0 0 0", "area", "area 0", "area 0 0", "area 0 0 0 0",
    "part", "part 0", "part 0 0", "part 0 0 0 0", "part 0 0 0 f", "elders f f", "elders f 0",
    # other first words
    "Show", "SHOW", "shows", "sho", "Undo", "undone", "Start f", "starts f", "Length 0", "lengths 0", "len 0", "Letter 0 0",
    "letters 0 0", "Place 0 f 0", "count 0 0", "Counts 0 0", "Pen 0 0", "pens 0 0", "Reach 0 0 0", "reaches 0 0 0",
    "Area 0 0 0", "Part 0 0 0", "parts 0 0 0", "Elders f", "elder f", "turn 0 0 0", "younger 0 0", "0 length", "touch 0 0 0",
    # no numbers as lines have them
    "length 00", "length 01", "length 007", "length +1", "length -1", "length -0", "length +0", "length 1.", "length 1.0",
    "length 1e1", "length 1_0", "length 0x1", "length f", "length ROUND", "length 1;", "length ,1", "length 0001",
    "letter 00 0", "letter 0 00", "letter 01 0", "letter 0 01", "letter -1 0", "letter 0 -1", "letter +0 0", "letter 0 +0",
    "letter f 0", "letter 0 f", "counts 00 0", "counts 0 -1", "counts 0 00", "pen 0 -1", "pen 00 0", "pen 0 +1", "pen 0 x",
    "reach 00 0 0", "reach 0 00 0", "reach 0 0 00", "reach 0 0 -1", "reach 0 -1 0", "reach -1 0 0", "reach 0 0 +1",
    "area 00 0 0", "area 0 00 0", "area 0 0 00", "area 0 0 -1", "area 0 -1 0", "area -1 0 0", "area 0 0 1_0",
    "part 00 0 0", "part 0 00 0", "part 0 0 00", "part 0 0 -1", "part 0 -1 0", "part -1 0 0", "part 0 0 f", "part 0 f 0",
    "place 00 f 0", "place 0 f 00", "place -1 f 0", "place 0 f -1", "place 0 f +0", "place 0 f f", "place f f 0",
    # no small letters
    "place 0 F 0", "place 0 0 0", "place 0 7 0", "place 0 ff 0", "place 0 fl 0", "place 0 ` 0", "place 0 { 0", "place 0 - 0",
    # numbers of too many figures
    "length " + "1" * 201, "length " + "9" * 500, "length 1" + "0" * 200, "letter 0 " + "1" * 201, "letter " + "2" * 201 + " 0",
    "place 0 f " + "1" * 201, "place " + "1" * 201 + " f 0", "counts 0 " + "1" * 201, "pen 0 " + "1" * 201,
    "reach 0 0 " + "1" * 201, "reach 0 " + "1" * 201 + " 0", "area 0 0 " + "1" * 201, "part 0 0 " + "1" * 201, "x" * 1000,
)
# lines that are refused otherwise, on a desk with HOUSE and the start word f
REFUSED = (
    ("rules ", NoText, 0),
    ("rules  ", NoText, 0),
    ("rules   ", NoText, 0),
    ("rules f", NoText, 0),
    ("rules  4; f stroke f", NoText, 0),
    ("rules 4;", NoText, 0),
    ("rules 4 ", NoText, 0),
    ("rules 4; f stroke f ", NoText, 1),
    ("rules 4; f stroke  f", NoText, 1),
    ("rules 4; f stroke f;l left l", NoText, 1),
    ("rules 4; f stroke f;  l left l", NoText, 2),
    ("rules 4; f stroke f; l turn l", NoText, 2),
    ("rules 4; ", NoText, 1),
    ("rules 4; F stroke F", NoText, 1),
    ("rules rules 4; f stroke f", NoText, 0),
    ("rules " + "x" * 994, NoText, 0),
    ("rules 5; f stroke f", NoPen, None),
    ("rules 1", NoPen, None),
    ("rules 9; f stroke g", NoPen, None),
    ("rules 5; f stroke f; f", NoText, 2),
    ("rules 4", NoRules, 0),
    ("rules 6", NoRules, 0),
    ("rules 4; f stroke g", NoRules, 0),
    ("rules 4; f stroke f; f left f", NoRules, 1),
    ("rules 6; f stroke fl; l left q", NoRules, 1),
    ("rules 4" + "; f stroke f" * 7, NoRules, 6),
    ("start q", NoWord, 0),
    ("start F", NoWord, 0),
    ("start 0", NoWord, 0),
    ("start fq", NoWord, 1),
    ("start f;", NoWord, 1),
    ("start flflflflf", NoWord, 8),
    ("start flflflflq", NoWord, 8),
    ("start flflflfq", NoWord, 7),
    ("start " + "f" * 994, NoWord, 8),
    ("elders q", NoWord, 0),
    ("elders 7", NoWord, 0),
    ("elders flq", NoWord, 2),
    ("elders flflflflflflf", NoWord, 12),
    ("elders flflflflflfq", NoWord, 11),
    ("elders " + "f" * 993, NoWord, 12),
    ("length 201", NoRound, None),
    ("length " + "9" * 200, NoRound, None),
    ("letter 201 0", NoRound, None),
    ("letter 201 " + "9" * 200, NoRound, None),
    ("letter 0 1", NoPlace, 1),
    ("letter 3 15", NoPlace, 15),
    ("letter 3 " + "9" * 200, NoPlace, 10 ** 200 - 1),
    ("letter 200 1" + "0" * 199, NoPlace, 10 ** 199),
    ("letter 200 " + str(2 ** 201 - 1), NoPlace, 2 ** 201 - 1),
    ("place 201 f 0", NoRound, None),
    ("place 201 q 0", NoRound, None),
    ("place 1000 q " + "9" * 200, NoRound, None),
    ("place 0 q 0", NoLetter, "q"),
    ("place 200 z " + "9" * 200, NoLetter, "z"),
    ("place 0 f 1", NoPlace, 1),
    ("place 0 l 0", NoPlace, 0),
    ("place 3 l 7", NoPlace, 7),
    ("place 200 f " + str(2 ** 200), NoPlace, 2 ** 200),
    ("counts 201 0", NoRound, None),
    ("counts 201 99", NoRound, None),
    ("counts 3 16", NoPlace, 16),
    ("pen 201 0", NoRound, None),
    ("pen 500 500", NoRound, None),
    ("pen 3 16", NoPlace, 16),
    ("pen 200 " + str(2 ** 201), NoPlace, 2 ** 201),
    ("reach 201 0 0", NoRound, None),
    ("reach 201 5 4", NoRound, None),
    ("reach 3 16 0", NoPlace, 16),
    ("reach 3 16 17", NoPlace, 16),
    ("reach 3 0 17", NoPlace, 17),
    ("reach 3 5 4", NoPlace, 4),
    ("area 201 0 0", NoRound, None),
    ("area 3 16 16", NoPlace, 16),
    ("area 3 15 16", NoPlace, 16),
    ("area 3 15 14", NoPlace, 14),
    ("part 201 0 0", NoRound, None),
    ("part 201 0 401", NoRound, None),
    ("part 3 16 0", NoPlace, 16),
    ("part 3 1 0", NoPlace, 0),
    ("part 3 0 16", NoPlace, 16),
    ("part 200 0 " + "9" * 200, NoPlace, 10 ** 200 - 1),
    ("part 200 0 401", TooLong, None),
    ("part 9 3 404", TooLong, None),
    ("part 200 0 " + str(2 ** 201 - 1), TooLong, None),
)


def desk_with(rows, start, ways=4):
    """A desk that holds these rules and this start word."""
    desk = Desk()
    desk.told("rules " + rules_text(Rules(ways, rows)))
    desk.told("start " + start)
    return desk


def answer(desk, line):
    """The desk's answer, or the class and the value of its refusal."""
    try:
        return desk.told(line)
    except GrowError as refusal:
        values = [getattr(refusal, value) for value in VALUES if hasattr(refusal, value)]
        return (type(refusal), values[0] if values else None)


def blanks(*numbers):
    """The numbers with one blank between."""
    return " ".join(str(number) for number in numbers)


class Case(unittest.TestCase):
    def tells(self, desk, line, expected):
        told = answer(desk, line)
        self.assertEqual(told, expected, line[:80])
        self.assertIs(type(told), str)

    def refuses(self, desk, line, kind, value):
        self.assertEqual(answer(desk, line), (kind, value), line[:80])


class Questions(Case):
    def test_words_written_out(self):
        for ways in (4, 6):
            for rows, start in ((HOUSE, "f"), (KOCH, "frrf"), (DRAGON, "yx"), (SIX, "nsa"), (SWAP, "abba"), (TRIPLE, "f")):
                desk = desk_with(rows, start, ways)
                for age in range(4):
                    word = grown(rows, start, age)
                    self.tells(desk, f"length {age}", str(len(word)))
                    for place in chosen_numbers(age, 8, 0, len(word) - 1):
                        letter = word[place]
                        number = word[:place].count(letter)
                        self.tells(desk, f"letter {age} {place}", letter)
                        self.tells(desk, f"place {age} {letter} {number}", str(place))
                    pens = walked(ways, deeds_of(rows, word))
                    for place in chosen_numbers(age + 9, 8, 0, len(word)):
                        self.tells(desk, f"counts {age} {place}", blanks(*counted(rows, word[:place]).values()))
                        (x, y), way = pens[place]
                        self.tells(desk, f"pen {age} {place}", blanks(x, y, way))

    def test_stretches_written_out(self):
        for ways in (4, 6):
            for rows, start in ((HOUSE, "f"), (KOCH, "frrf"), (DRAGON, "yx"), (SIX, "nsa"), (SWAP, "abba"), (TRIPLE, "f")):
                desk = desk_with(rows, start, ways)
                for age in range(4):
                    word = grown(rows, start, age)
                    for begin in chosen_numbers(age, 4, 0, len(word)):
                        for end in chosen_numbers(begin, 4, begin, len(word)):
                            track = shown(ways, deeds_of(rows, word[begin:end]))
                            self.tells(desk, f"reach {age} {begin} {end}", blanks(*track[4]))
                            self.tells(desk, f"area {age} {begin} {end}", str(track[6]))
                            if end - begin <= 400:
                                expected = "part " + word[begin:end] if end > begin else "part"
                                self.tells(desk, f"part {age} {begin} {end}", expected)

    def test_round_200_as_growths_and_drawings_tell_it(self):
        for ways, rows, start in ((4, HOUSE, "f"), (6, KOCH, "frrf"), (4, DRAGON, "x"), (6, EIGHTS, "fedcbaab"), (4, SIX, "nsa")):
            desk = desk_with(rows, start, ways)
            growth = Growth(Rules(ways, rows), start)
            drawing = Drawing(growth)
            for age in (0, 199, 200):
                length = growth.length(age)
                self.tells(desk, f"length {age}", str(length))
                for place in chosen_numbers(age, 4, 0, length - 1):
                    letter = growth.letter_at(age, place)
                    ahead = growth.ahead(age, place)
                    (x, y), way = drawing.pen_at(age, place)
                    self.tells(desk, f"letter {age} {place}", letter)
                    self.tells(desk, f"counts {age} {place}", blanks(*[ahead[row[0]] for row in rows]))
                    self.tells(desk, f"place {age} {letter} {ahead[letter]}", str(place))
                    self.tells(desk, f"pen {age} {place}", blanks(x, y, way))
                    track = drawing.stretch(age, place, length)
                    self.tells(desk, f"reach {age} {place} {length}", blanks(*track.reach()))
                    self.tells(desk, f"area {age} {place} {length}", str(track.area()))
                    end = min(length, place + 400)
                    self.tells(desk, f"part {age} {place} {end}", "part " + growth.part(age, place, end))
                    self.tells(desk, f"part {age} {place} {place}", "part")

    def test_known_answers(self):
        desk = desk_with(HOUSE, "f")
        for line, expected in (
            ("length 0", "1"), ("length 3", "15"), ("length 200", str(2 ** 201 - 1)), ("letter 3 5", "l"),
            ("letter 200 1" + "0" * 60, "f"), ("place 3 l 2", "5"), ("place 200 l 0", "1"), ("counts 3 5", "3 2"),
            ("counts 200 0", "0 0"), ("counts 0 1", "1 0"), ("pen 3 0", "0 0 0"), ("pen 3 5", "0 1 2"), ("pen 3 6", "0 1 3"),
            ("reach 3 0 8", "1 1 0 0"), ("area 3 0 8", "2"), ("area 0 0 0", "0"), ("reach 200 7 7", "0 0 0 0"),
            ("part 3 5 8", "part lfl"), ("part 3 5 6", "part l"), ("part 3 5 5", "part"), ("part 200 0 0", "part"),
        ):
            self.tells(desk, line, expected)
        desk = desk_with([("f", "stroke", "frf"), ("r", "right", "r")], "f", 6)
        for line, expected in (
            ("pen 1 3", "2 -1 5"), ("pen 2 4", "2 -1 4"), ("reach 0 0 1", "2 1 0 0 0 1"), ("area 1 0 3", "-1"),
            ("area 3 0 13", "-6"), ("reach 3 0 13", "3 1 0 1 3 4"),
        ):
            self.tells(desk, line, expected)

    def test_a_new_desk(self):
        desk = Desk()
        for line, expected in (
            ("show", FIRST), ("length 0", "1"), ("length 200", "1"), ("letter 200 0", "f"), ("place 9 f 0", "0"),
            ("counts 7 0", "0"), ("counts 7 1", "1"), ("pen 200 1", "1 0 0"), ("reach 200 0 1", "1 0 0 0"),
            ("area 200 0 1", "0"), ("part 200 0 1", "part f"), ("elders ff", "f0"), ("show", FIRST),
        ):
            self.tells(desk, line, expected)

    def test_great_numbers_are_read_and_written(self):
        desk = desk_with(EIGHTS, "fedcbaab", 6)
        last = 8 ** 201 - 1
        self.tells(desk, "length 200", str(last + 1))
        self.tells(desk, f"letter 200 {last}", Growth(Rules(6, EIGHTS), "fedcbaab").letter_at(200, last))
        self.refuses(desk, "letter 200 " + "9" * 200, NoPlace, 10 ** 200 - 1)
        self.refuses(desk, "letter 200 " + "9" * 201, NoLine, "letter 200 " + "9" * 201)

    def test_elders(self):
        desk = desk_with(HOUSE, "f")
        for line, expected in (
            ("elders f", "f0 f2"), ("elders l", "f1 l0"), ("elders ff", "f2"), ("elders lf", "f1 l0"), ("elders fff", "none"),
            ("elders flf", "f0 f2"), ("elders ll", "l0"), ("elders llllllllllll", "l0"), ("elders flflflflflfl", "f0 f2"),
        ):
            self.tells(desk, line, expected)
        for rows in (KOCH, DRAGON, SIX, EIGHTS, TRIPLE):
            desk = desk_with(rows, rows[0][0])
            long = grown(rows, "".join(row[0] for row in rows), 2)
            for many in (1, 2, 5, 12):
                for begin in range(0, max(1, len(long) - many), 7):
                    word = long[begin:begin + many]
                    told = [one[0] + str(one[1]) for one in elders(Rules(4, rows), word) if one[2] == len(word)]
                    self.tells(desk, "elders " + word, " ".join(told) if told else "none")

    def test_letters_in_the_rows_order(self):
        desk = Desk()
        desk.told("rules 4; z rest zzzab; b left b; a right a")
        self.tells(desk, "counts 1 5", "3 1 1")
        self.tells(desk, "counts 1 4", "3 0 1")
        self.tells(desk, "elders b", "z4 b0")


class Changes(Case):
    def test_rules_and_show(self):
        desk = Desk()
        for text in (HOUSE_TEXT, "6; b step ab; a left a", "4; f stroke f", "6; z rest zzzzzzzz"):
            self.tells(desk, "rules " + text, "ready")
            self.tells(desk, "show", text + " / " + text[3])

    def test_the_start_word_is_the_first_letter_behind_rules(self):
        desk = desk_with(HOUSE, "lflf")
        self.tells(desk, "rules 6; b step abba; a left a", "ready")
        self.tells(desk, "show", "6; b step abba; a left a / b")
        self.tells(desk, "length 1", "4")
        self.tells(desk, "start abab", "ready")
        self.tells(desk, "rules 6; a left a; b step abba", "ready")
        self.tells(desk, "show", "6; a left a; b step abba / a")

    def test_start(self):
        desk = Desk()
        desk.told("rules " + HOUSE_TEXT)
        for word in ("l", "f", "lf", "ffffffff", "flflflfl"):
            self.tells(desk, "start " + word, "ready")
            self.tells(desk, "show", HOUSE_TEXT + " / " + word)
            self.tells(desk, "part 0 0 " + str(len(word)), "part " + word)
            self.tells(desk, "length 200", str(Growth(read_rules(HOUSE_TEXT), word).length(200)))

    def test_a_word_of_the_rules_that_were(self):
        desk = Desk()
        desk.told("rules 6; b step ab; a left a")
        self.refuses(desk, "start f", NoWord, 0)
        self.refuses(desk, "elders f", NoWord, 0)
        self.refuses(desk, "place 0 f 0", NoLetter, "f")
        self.tells(desk, "start a", "ready")

    def test_answers_follow_every_change(self):
        desk = Desk()
        asked = ("length 9", "letter 9 0", "counts 9 1", "pen 9 1", "reach 9 0 1", "area 9 0 1", "part 9 0 1", "elders f")
        expected = {}
        for lines in ((), ("rules " + HOUSE_TEXT,), ("rules " + HOUSE_TEXT, "start lf"), ("rules 6; f step ff",)):
            alone = Desk()
            for line in lines:
                alone.told(line)
            expected[lines] = [answer(alone, line) for line in asked]
        for lines in list(expected) * 2 + list(reversed(expected)):
            for line in lines:
                desk.told(line)
            self.assertEqual([answer(desk, line) for line in asked], expected[lines])
            for line in lines:
                desk.told("undo")
        self.refuses(desk, "undo", NothingDone, None)


class Undo(Case):
    def test_a_new_desk_has_nothing_to_undo(self):
        desk = Desk()
        for times in range(3):
            self.refuses(desk, "undo", NothingDone, None)
            self.tells(desk, "show", FIRST)

    def test_questions_are_not_undone(self):
        desk = Desk()
        for line in ("show", "length 5", "letter 0 0", "elders f", "pen 1 1", "reach 0 0 1", "area 0 0 0", "part 0 0 1"):
            desk.told(line)
            self.refuses(desk, "undo", NothingDone, None)

    def test_as_often_as_there_are_lines(self):
        desk = Desk()
        shows = [FIRST]
        for line in ("start ff", "rules " + HOUSE_TEXT, "start lf", "start lf", "rules " + HOUSE_TEXT, "rules 6; b rest b",
                     "start bbb"):
            self.tells(desk, line, "ready")
            shows.append(desk.told("show"))
        self.assertEqual(shows, [
            FIRST, "4; f stroke f / ff", HOUSE_TEXT + " / f", HOUSE_TEXT + " / lf", HOUSE_TEXT + " / lf", HOUSE_TEXT + " / f",
            "6; b rest b / b", "6; b rest b / bbb",
        ])
        for expected in reversed(shows[:-1]):
            self.tells(desk, "undo", "ready")
            self.tells(desk, "show", expected)
        self.refuses(desk, "undo", NothingDone, None)
        self.tells(desk, "show", FIRST)

    def test_undo_is_not_undone(self):
        desk = Desk()
        desk.told("start ff")
        desk.told("start fff")
        desk.told("undo")
        self.tells(desk, "show", "4; f stroke f / ff")
        desk.told("start ffff")
        self.tells(desk, "undo", "ready")
        self.tells(desk, "show", "4; f stroke f / ff")
        self.tells(desk, "undo", "ready")
        self.tells(desk, "show", FIRST)
        self.refuses(desk, "undo", NothingDone, None)
        self.tells(desk, "start fffff", "ready")
        self.tells(desk, "undo", "ready")
        self.tells(desk, "show", FIRST)

    def test_behind_refused_lines(self):
        desk = Desk()
        desk.told("rules " + HOUSE_TEXT)
        desk.told("start lf")
        for line, kind, value in REFUSED[:41]:
            self.refuses(desk, line, kind, value)
        self.tells(desk, "undo", "ready")
        self.tells(desk, "show", HOUSE_TEXT + " / f")
        self.refuses(desk, "start q", NoWord, 0)
        self.refuses(desk, "rules", NoLine, "rules")
        self.tells(desk, "undo", "ready")
        self.tells(desk, "show", FIRST)
        self.refuses(desk, "undo", NothingDone, None)

    def test_many_lines(self):
        desk = Desk()
        for number in range(600):
            desk.told("start " + "f" * (number % 8 + 1))
            desk.told("length 200")
        for number in reversed(range(600)):
            self.tells(desk, "length 0", str(number % 8 + 1))
            desk.told("undo")
        self.tells(desk, "show", FIRST)
        self.refuses(desk, "undo", NothingDone, None)


class Refused(Case):
    def test_no_line(self):
        desks = (Desk(), desk_with(HOUSE, "f"))
        for line in NO_LINES:
            for desk in desks:
                self.refuses(desk, line, NoLine, line)
        self.tells(desks[0], "show", FIRST)
        self.refuses(desks[0], "undo", NothingDone, None)
        self.tells(desks[1], "show", HOUSE_TEXT + " / f")

    def test_lines_that_are_refused_otherwise(self):
        desk = desk_with(HOUSE, "f")
        for line, kind, value in REFUSED:
            for times in range(2):
                self.refuses(desk, line, kind, value)
            self.tells(desk, "show", HOUSE_TEXT + " / f")

    def test_what_is_refused_leaves_the_desk_as_it_was(self):
        asked = ("show", "length 3", "letter 3 5", "place 3 l 2", "counts 200 5", "pen 200 9", "reach 3 0 8", "area 3 0 8",
                 "part 3 0 15", "elders flf")
        desk = desk_with(HOUSE, "lf")
        expected = [desk.told(line) for line in asked]
        for line in NO_LINES[:40] + tuple(row[0] for row in REFUSED):
            if type(answer(desk, line)) is tuple:
                self.assertEqual([desk.told(other) for other in asked[:3]], expected[:3], line[:80])
        self.assertEqual([desk.told(line) for line in asked], expected)
        self.tells(desk, "undo", "ready")
        self.tells(desk, "show", HOUSE_TEXT + " / f")
        self.tells(desk, "undo", "ready")
        self.tells(desk, "show", FIRST)
        self.refuses(desk, "undo", NothingDone, None)

    def test_numbers_of_two_hundred_figures_are_lines(self):
        desk = desk_with(HOUSE, "f")
        most = "1" + "0" * 199
        for line in (f"length {most}", f"letter {most} 0", f"place {most} q 0", f"counts {most} 0", f"pen {most} 0",
                     f"reach {most} 0 0", f"area {most} 0 0", f"part {most} 0 0"):
            self.refuses(desk, line, NoRound, None)
        for line in (f"letter 0 {most}", f"place 0 f {most}", f"counts 0 {most}", f"pen 0 {most}", f"reach 0 0 {most}",
                     f"reach 0 {most} 0", f"area 0 0 {most}", f"part 0 {most} {most}"):
            self.refuses(desk, line, NoPlace, 10 ** 199)


class Beside(Case):
    def test_two_desks_beside_one_another(self):
        one = Desk()
        other = Desk()
        one.told("rules " + HOUSE_TEXT)
        self.tells(other, "show", FIRST)
        self.refuses(other, "undo", NothingDone, None)
        other.told("start ffff")
        self.tells(one, "show", HOUSE_TEXT + " / f")
        one.told("start lll")
        self.tells(other, "length 7", "4")
        self.tells(one, "length 7", "3")
        self.tells(other, "undo", "ready")
        self.tells(one, "show", HOUSE_TEXT + " / lll")
        self.tells(one, "undo", "ready")
        self.tells(one, "show", HOUSE_TEXT + " / f")
        self.tells(other, "show", FIRST)
        self.tells(Desk(), "show", FIRST)

    def test_strewn_lines_against_a_plain_list_of_what_was(self):
        texts = [HOUSE_TEXT, "6; b step ab; a left a", "4; f stroke f", "5; f stroke f", "4; f stroke", "4; f stroke l", ""]
        for seed in range(12):
            strewn = random.Random(seed)
            desk = Desk()
            states = [("4; f stroke f", "f")]
            for times in range(60):
                line = strewn.choice([
                    "rules " + strewn.choice(texts), "start " + "".join(strewn.choices("ffflab", k=strewn.randint(1, 3))),
                    "undo", "show ", "length 201", "elders q",
                ])
                told = answer(desk, line)
                if line == "undo" and len(states) > 1:
                    states.pop()
                elif told == "ready" and line.startswith("rules "):
                    states.append((line[6:], line[9]))
                elif told == "ready":
                    states.append((states[-1][0], line[6:]))
                self.tells(desk, "show", " / ".join(states[-1]))
                self.tells(desk, "length 30", str(Growth(read_rules(states[-1][0]), states[-1][1]).length(30)))

    def test_nothing_hangs_on_what_was_asked_before(self):
        asked = ["length 200", "letter 200 77", "place 3 l 2", "counts 200 5", "pen 200 9", "reach 3 0 8", "area 200 3 800",
                 "part 3 0 15", "elders flf", "length 201", "letter 0 7", "place 2 q 0", "show", "pen  0 0", "part 200 0 401"]
        alone = [answer(desk_with(HOUSE, "fl"), line) for line in asked]
        for seed in range(5):
            desk = desk_with(HOUSE, "fl")
            order = list(range(len(asked))) * 2
            random.Random(seed).shuffle(order)
            for number in order:
                self.assertEqual(answer(desk, asked[number]), alone[number])


if __name__ == "__main__":
    unittest.main()
