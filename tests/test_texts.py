"""Point 11: the text that tells rules, shown and read."""

import unittest

from strokegrow.errors import NoPen, NoRules, NoText
from strokegrow.rules import Rules
from strokegrow.texts import read_rules, rules_text

DOCUMENT_TEXT = "4; f stroke flf; l left l"
DOCUMENT_ROWS = [("f", "stroke", "flf"), ("l", "left", "l")]
SIX_TEXT = "6; s stroke slsrs; a step z; l left l; z rest aaaaaaaa; r right rrrllrrl; m stroke mszalr"
SIX_ROWS = [
    ("s", "stroke", "slsrs"),
    ("a", "step", "z"),
    ("l", "left", "l"),
    ("z", "rest", "aaaaaaaa"),
    ("r", "right", "rrrllrrl"),
    ("m", "stroke", "mszalr"),
]
# texts with the number of the first part that is not well written
NOT_WELL_WRITTEN = (
    ("", 0),
    (" ", 0),
    (";", 0),
    ("; ", 0),
    ("; f stroke f", 0),
    ("f stroke f", 0),
    ("0; f stroke f", 0),
    ("10; f stroke f", 0),
    ("44; f stroke f", 0),
    ("04; f stroke f", 0),
    ("4.; f stroke f", 0),
    ("-4; f stroke f", 0),
    ("+4; f stroke f", 0),
    ("/; f stroke f", 0),
    (":; f stroke f", 0),
    ("a; f stroke f", 0),
    ("four; f stroke f", 0),
    (" 4; f stroke f", 0),
    ("4 ; f stroke f", 0),
    ("4;f stroke f", 0),
    ("4, f stroke f", 0),
    ("4 f stroke f", 0),
    ("4;", 0),
    ("4 ", 0),
    (" 4", 0),
    ("4; ", 1),
    ("4; ; f stroke f", 1),
    ("4;  f stroke f", 1),
    ("4; f stroke f ", 1),
    ("4; f  stroke f", 1),
    ("4; f stroke  f", 1),
    ("4; fstroke f", 1),
    ("4; f strokef", 1),
    ("4; f stroke", 1),
    ("4; f stroke ", 1),
    ("4; stroke f", 1),
    ("4;  stroke f", 1),
    ("4; f  f", 1),
    ("4; f", 1),
    ("4; f stroke f f", 1),
    ("4; f stroke f;", 1),
    ("4; f stroke f; ", 2),
    ("4; f stroke f;l left l", 1),
    ("4; f stroke f;  l left l", 2),
    ("4; f stroke f ; l left l", 1),
    ("4; f stroke f; l left l;", 2),
    ("4; f stroke f; l left l; ", 3),
    ("4; F stroke f", 1),
    ("4; f Stroke f", 1),
    ("4; f STROKE f", 1),
    ("4; f stroke F", 1),
    ("4; f stroke fFf", 1),
    ("4; f strok f", 1),
    ("4; f strokes f", 1),
    ("4; f turn f", 1),
    ("4; f f f", 1),
    ("4; ff stroke f", 1),
    ("4; 1 stroke f", 1),
    ("4; ` stroke f", 1),
    ("4; { stroke f", 1),
    ("4; f stroke 1", 1),
    ("4; f stroke f1", 1),
    ("4; f stroke f`", 1),
    ("4; f stroke {f", 1),
    ("4; f stroke f,f", 1),
    ("4; f stroke fffffffff", 1),
    ("4; f stroke f; l left fffffffff", 2),
    ("4; f stroke f; l lefts l; R right r", 2),
    ("4; f stroke f; l left l; r right R; x", 3),
    ("4; f stroke f; l left l; r right r; n rest n; g step g; h rest h; i rest I", 7),
    ("; ; ", 0),
    ("44; F stroke f", 0),
)


class Shown(unittest.TestCase):
    def test_the_documents_own_text(self):
        self.assertEqual(rules_text(Rules(4, DOCUMENT_ROWS)), DOCUMENT_TEXT)

    def test_one_row(self):
        self.assertEqual(rules_text(Rules(4, [("f", "stroke", "f")])), "4; f stroke f")
        self.assertEqual(rules_text(Rules(6, [("f", "stroke", "f")])), "6; f stroke f")

    def test_six_rows_in_their_order(self):
        self.assertEqual(rules_text(Rules(6, SIX_ROWS)), SIX_TEXT)


class Read(unittest.TestCase):
    def test_the_documents_own_text(self):
        rules = read_rules(DOCUMENT_TEXT)
        self.assertIs(type(rules), Rules)
        self.assertEqual(rules.pen().ways(), 4)
        self.assertEqual(rules.rows_told(), DOCUMENT_ROWS)
        self.assertEqual(rules.letters(), "fl")

    def test_told_rows_are_tuples(self):
        for row in read_rules(SIX_TEXT).rows_told():
            self.assertIs(type(row), tuple)

    def test_six_rows(self):
        rules = read_rules(SIX_TEXT)
        self.assertEqual(rules.pen().ways(), 6)
        self.assertEqual(rules.rows_told(), SIX_ROWS)

    def test_what_is_shown_is_read_again(self):
        for ways in (4, 6):
            for rows in (DOCUMENT_ROWS, SIX_ROWS, SIX_ROWS[2:3], [("a", "rest", "zzzzzzzz"), ("z", "step", "a")]):
                rules = read_rules(rules_text(Rules(ways, rows)))
                self.assertEqual(rules.pen().ways(), ways)
                self.assertEqual(rules.rows_told(), rows)

    def test_what_is_read_is_shown_again(self):
        for text in (DOCUMENT_TEXT, SIX_TEXT, "6; z rest zzzzzzzz", "4; a right a"):
            self.assertEqual(rules_text(read_rules(text)), text)

    def test_each_read_is_new(self):
        one = read_rules(DOCUMENT_TEXT)
        one.rows_told().clear()
        self.assertEqual(read_rules(DOCUMENT_TEXT).rows_told(), DOCUMENT_ROWS)
        self.assertEqual(one.rows_told(), DOCUMENT_ROWS)


class Refused(unittest.TestCase):
    def test_no_text(self):
        for text, which in NOT_WELL_WRITTEN:
            with self.assertRaises(NoText, msg=text) as caught:
                read_rules(text)
            self.assertEqual(caught.exception.which, which, text)

    def test_no_text_ahead_of_other_refusals(self):
        for text, which in (
            ("5; f strokes f", 1),
            ("9; f stroke f; l left L", 2),
            ("4; f stroke x; l left", 2),
            ("4; f stroke f; f stroke f; x", 3),
        ):
            with self.assertRaises(NoText, msg=text) as caught:
                read_rules(text)
            self.assertEqual(caught.exception.which, which, text)

    def test_a_far_part(self):
        text = "; ".join(["4"] + ["f stroke f"] * 70 + ["f stroke"])
        with self.assertRaises(NoText) as caught:
            read_rules(text)
        self.assertEqual(caught.exception.which, 71)

    def test_the_first_part_alone(self):
        for text in ("4", "6"):
            with self.assertRaises(NoRules) as caught:
                read_rules(text)
            self.assertEqual(caught.exception.row, 0)
        for text in ("1", "2", "3", "5", "7", "8", "9"):
            with self.assertRaises(NoPen):
                read_rules(text)

    def test_no_pen(self):
        for figure in "1235789":
            with self.assertRaises(NoPen):
                read_rules(figure + "; f stroke f")

    def test_no_pen_ahead_of_no_rules(self):
        for text in ("5; f stroke x", "5; f stroke f; f stroke f"):
            with self.assertRaises(NoPen):
                read_rules(text)

    def test_no_rules(self):
        for text, row in (
            ("4; f stroke fl", 0),
            ("4; f stroke f; f stroke f", 1),
            ("4; f stroke l; l left x", 1),
            ("6; f stroke f; l left l; r right lf; f rest f", 3),
            ("4; a rest a; b rest b; c rest c; d rest d; e rest e; f rest f; g rest g", 6),
            ("4; a rest z; b rest b; c rest c; d rest d; e rest e; f rest f; g rest g", 6),
        ):
            with self.assertRaises(NoRules, msg=text) as caught:
                read_rules(text)
            self.assertEqual(caught.exception.row, row, text)

    def test_a_refused_text_can_be_asked_again(self):
        for times in range(2):
            with self.assertRaises(NoText):
                read_rules("4; f stroke f;")
            self.assertEqual(rules_text(read_rules("4; f stroke f")), "4; f stroke f")


if __name__ == "__main__":
    unittest.main()
