"""Points 2, 8, 9 and 10: rules and what refuses them, letters and words, turns."""

import unittest

from strokegrow.errors import NoLetter, NoPen, NoRules, NoWord
from strokegrow.pens import Quarter, Sixth
from strokegrow.rules import Rules

DEEDS = ("stroke", "step", "left", "right", "rest")
ONE = [("f", "stroke", "f")]
SIX = [
    ("s", "stroke", "slsrs"),
    ("a", "step", "z"),
    ("l", "left", "l"),
    ("z", "rest", "aaaaaaaa"),
    ("r", "right", "rrrllrrl"),
    ("m", "stroke", "mszalr"),
]
SEVEN = [(letter, "rest", letter) for letter in "abcdefg"]
# what is not one small letter, with the signs just beside a and z among them
NO_LETTERS = ("", "A", "Z", "1", " ", ";", "`", "{", "ab", "ff", "f ", " f", "F", "abcdefgh")
NO_DEEDS = ("", "Stroke", "STEP", "lef", "lefts", "right ", " rest", "turn", "s")
TURNING = [("f", "stroke", "f"), ("g", "step", "g"), ("l", "left", "l"), ("r", "right", "r"), ("n", "rest", "n")]


def with_row(at, row):
    """Four rows without a fault but for the one that is put in."""
    rows = [("a", "stroke", "ab"), ("b", "step", "c"), ("c", "left", "abcd"), ("d", "rest", "d")]
    rows[at] = row
    return rows


class Case(unittest.TestCase):
    def refused(self, rows, row, ways=4):
        with self.assertRaises(NoRules, msg=rows) as caught:
            Rules(ways, rows)
        self.assertEqual(caught.exception.row, row, rows)

    def no_word(self, at, ask, *asked):
        with self.assertRaises(NoWord, msg=asked) as caught:
            ask(*asked)
        self.assertEqual(caught.exception.at, at, asked)


class Made(Case):
    def test_one_row(self):
        for ways in (4, 6):
            rules = Rules(ways, ONE)
            self.assertEqual(rules.rows_told(), ONE)
            self.assertEqual(rules.letters(), "f")

    def test_each_letter_and_each_deed(self):
        for letter in "abcdefghijklmnopqrstuvwxyz":
            for deed in DEEDS:
                rules = Rules(6, [(letter, deed, letter)])
                self.assertEqual(rules.rows_told(), [(letter, deed, letter)])

    def test_six_rows(self):
        for ways in (4, 6):
            self.assertEqual(Rules(ways, SIX).rows_told(), SIX)

    def test_told_rows_are_tuples_in_a_list(self):
        told = Rules(4, SIX).rows_told()
        self.assertIs(type(told), list)
        self.assertEqual([type(row) for row in told], [tuple] * 6)

    def test_pen(self):
        self.assertIs(type(Rules(4, ONE).pen()), Quarter)
        self.assertIs(type(Rules(6, ONE).pen()), Sixth)

    def test_words_of_each_length(self):
        for many in range(1, 9):
            self.assertEqual(Rules(4, [("f", "stroke", "f" * many)]).word("f"), "f" * many)

    def test_a_letter_that_stands_behind(self):
        rows = [("a", "rest", "bc"), ("b", "left", "c"), ("c", "right", "a")]
        self.assertEqual(Rules(4, rows).rows_told(), rows)


class Refused(Case):
    def test_no_row(self):
        self.refused([], 0)
        self.refused([], 0, 6)

    def test_more_than_six_rows(self):
        self.refused(SEVEN, 6)
        self.refused(SEVEN, 6, 6)
        self.refused(SEVEN + [("h", "rest", "h")], 6)
        self.refused(ONE * 1000, 6)

    def test_more_than_six_rows_ahead_of_faults(self):
        self.refused([("A", "no", "")] + SEVEN[1:], 6)
        self.refused(SEVEN[:3] + [("a", "rest", "a")] + SEVEN[3:6], 6)

    def test_six_rows_of_seven(self):
        self.assertEqual(Rules(4, SEVEN[:6]).letters(), "abcdef")

    def test_no_small_letter(self):
        for at in range(4):
            for letter in NO_LETTERS:
                # each word is of a letter that stays, so nothing else is wrong
                stays = "abcd"[at - 1]
                rows = [(other, "rest", stays) for other in "abcd"]
                rows[at] = (letter, "rest", stays)
                self.refused(rows, at)

    def test_a_letter_of_a_row_ahead(self):
        self.refused(ONE + ONE, 1)
        self.refused([("a", "rest", "a"), ("b", "rest", "b"), ("a", "left", "b")], 2)
        self.refused(SEVEN[:5] + [("a", "rest", "a")], 5)

    def test_no_deed(self):
        for at in range(4):
            for deed in NO_DEEDS:
                self.refused(with_row(at, ("abcd"[at], deed, "a")), at)

    def test_no_word(self):
        for at in range(4):
            for word in ("", "abcdabcda", "aaaaaaaaa", "a" * 1000):
                self.refused(with_row(at, ("abcd"[at], "rest", word)), at)

    def test_a_sign_that_is_no_letter(self):
        for at in range(4):
            for word in ("e", "ae", "ea", "aeb", "abcdabce", "A", "a b", " a", "a ", "a1", "-", "ab;"):
                self.refused(with_row(at, ("abcd"[at], "rest", word)), at)

    def test_the_first_of_two_faulty_rows(self):
        self.refused([("a", "rest", "a"), ("b", "no", "b"), ("c", "rest", "")], 1)
        self.refused([("a", "rest", ""), ("b", "no", "b")], 0)
        self.refused([("a", "rest", "a"), ("a", "rest", "a"), ("C", "rest", "a")], 1)
        self.refused([("a", "rest", "a"), ("b", "rest", "x"), ("b", "rest", "b")], 1)
        self.refused([("a", "rest", "aaaaaaaaa"), ("a", "rest", "a")], 0)

    def test_letters_of_rows_that_are_wrong_otherwise(self):
        self.refused([("a", "rest", "b"), ("b", "no", "b")], 1)
        self.refused([("a", "rest", "b"), ("b", "rest", "")], 1)
        self.refused([("a", "rest", "b"), ("b", "rest", "x")], 1)
        self.refused([("a", "no", "a"), ("b", "rest", "a")], 0)
        self.refused([("a", "rest", "abc"), ("b", "rest", "a"), ("b", "rest", "c"), ("c", "rest", "a")], 2)

    def test_first_texts_that_are_no_small_letter(self):
        self.refused([("a", "rest", "B"), ("B", "rest", "a")], 0)
        self.refused([("a", "rest", "1"), ("1", "rest", "a")], 0)
        self.refused([("a", "rest", "bc"), ("bc", "rest", "a")], 0)
        self.refused([("a", "rest", "a"), ("bc", "rest", "b")], 1)

    def test_no_pen(self):
        for ways in (0, 1, 3, 5, 7, 8, 46, -4, -6, 10 ** 199):
            with self.assertRaises(NoPen):
                Rules(ways, ONE)

    def test_no_pen_ahead_of_all_else(self):
        for rows in ([], SEVEN, [("A", "rest", "a")], [("a", "no", "a")], [("a", "rest", "")], ONE + ONE):
            with self.assertRaises(NoPen):
                Rules(5, rows)


class LettersAndWords(Case):
    def test_letters_in_the_rows_order(self):
        self.assertEqual(Rules(4, SIX).letters(), "salzrm")
        self.assertEqual(Rules(4, SIX[::-1]).letters(), "mrzlas")

    def test_deed_and_word(self):
        rules = Rules(6, SIX)
        for letter, deed, word in SIX:
            self.assertEqual(rules.deed(letter), deed)
            self.assertEqual(rules.word(letter), word)

    def test_no_letter(self):
        rules = Rules(4, SIX)
        for ask in (rules.deed, rules.word):
            for text in ("", "b", "S", "sa", "ss", "s ", " ", "salzrm", "stroke", "1", "s" * 1000):
                with self.assertRaises(NoLetter, msg=text) as caught:
                    ask(text)
                self.assertEqual(caught.exception.letter, text)

    def test_a_word(self):
        rules = Rules(4, SIX)
        for text in ("s", "m", "salzrm", "ssssssss", "mmrrllaa"):
            self.assertEqual(rules.word_of(text), text)

    def test_a_word_with_another_most(self):
        rules = Rules(4, SIX)
        self.assertEqual(rules.word_of("s", 1), "s")
        self.assertEqual(rules.word_of("salzrmsalzrm", 12), "salzrmsalzrm")
        self.assertEqual(rules.word_of("ml" * 200, 400), "ml" * 200)
        self.assertEqual(rules.word_of("sa", 400), "sa")

    def test_the_text_without_signs(self):
        rules = Rules(4, SIX)
        self.no_word(0, rules.word_of, "")
        self.no_word(0, rules.word_of, "", 1)
        self.no_word(0, rules.word_of, "", 400)

    def test_a_strange_sign(self):
        rules = Rules(4, SIX)
        for sign in ("b", "S", " ", ";", "0", "~"):
            for at in range(8):
                self.no_word(at, rules.word_of, "sssssss"[:at] + sign + "sssssss"[at:])
        self.no_word(1, rules.word_of, "sbxs")
        self.no_word(2, rules.word_of, "ssbsssssssss")

    def test_too_many_letters(self):
        rules = Rules(4, SIX)
        self.no_word(8, rules.word_of, "salzrmsal")
        self.no_word(8, rules.word_of, "s" * 1000)
        self.no_word(8, rules.word_of, "ssssssssb")
        self.no_word(8, rules.word_of, "sssssssssb")
        self.no_word(1, rules.word_of, "ss", 1)
        self.no_word(12, rules.word_of, "s" * 13, 12)
        self.no_word(11, rules.word_of, "s" * 11 + "b" + "s", 12)
        self.no_word(400, rules.word_of, "s" * 401, 400)

    def test_most_holds_for_one_asking_alone(self):
        rules = Rules(4, SIX)
        self.assertEqual(rules.word_of("s" * 12, 12), "s" * 12)
        self.no_word(8, rules.word_of, "s" * 12)
        self.no_word(2, rules.word_of, "sss", 2)
        self.assertEqual(rules.word_of("ssssssss"), "ssssssss")


class Turns(Case):
    def test_turn_of_each_letter(self):
        self.assertEqual([Rules(4, TURNING).turn_of(letter) for letter in "fglrn"], [0, 0, 1, 3, 0])
        self.assertEqual([Rules(6, TURNING).turn_of(letter) for letter in "fglrn"], [0, 0, 1, 5, 0])

    def test_the_text_without_signs(self):
        for ways in (4, 6):
            self.assertEqual(Rules(ways, TURNING).turn_of(""), 0)

    def test_lefts_less_rights(self):
        for ways in (4, 6):
            rules = Rules(ways, TURNING)
            for lefts in range(9):
                for rights in range(9):
                    word = "fl" * lefts + "rgn" * rights
                    self.assertEqual(rules.turn_of(word), (lefts - rights) % ways)

    def test_more_rights_than_lefts(self):
        self.assertEqual(Rules(4, TURNING).turn_of("lrr"), 3)
        self.assertEqual(Rules(6, TURNING).turn_of("lrr"), 5)
        self.assertEqual(Rules(4, TURNING).turn_of("rrrrrrr"), 1)
        self.assertEqual(Rules(6, TURNING).turn_of("rrrrrrr"), 5)

    def test_long_words(self):
        self.assertEqual(Rules(4, TURNING).turn_of("l" * 399 + "f"), 3)
        self.assertEqual(Rules(6, TURNING).turn_of("l" * 399 + "f"), 3)
        self.assertEqual(Rules(4, TURNING).turn_of("r" * 399), 1)
        self.assertEqual(Rules(6, TURNING).turn_of("r" * 400), 2)

    def test_rules_that_keep_turns(self):
        keeping = (
            (4, TURNING),
            (6, TURNING),
            (4, [("f", "stroke", "flfrrflf"), ("l", "left", "l"), ("r", "right", "r")]),
            (4, [("l", "left", "lllll")]),
            (6, [("l", "left", "lllllll")]),
            (4, [("f", "step", "llll"), ("l", "left", "rrr"), ("r", "right", "lll")]),
            (6, [("f", "rest", "llllll"), ("l", "left", "rrrrr"), ("r", "right", "lllll")]),
        )
        for ways, rows in keeping:
            self.assertIs(Rules(ways, rows).keeps_turns(), True, rows)

    def test_rules_that_do_not(self):
        breaking = (
            (4, [("f", "stroke", "flf"), ("l", "left", "l")]),
            (6, [("l", "left", "lllll")]),
            (4, [("l", "left", "lllllll")]),
            (4, [("l", "left", "ll")]),
            (4, [("l", "left", "r"), ("r", "right", "l")]),
            (6, [("f", "step", "llll"), ("l", "left", "l")]),
            (4, [("l", "left", "l"), ("r", "right", "r"), ("n", "rest", "nr")]),
            (4, [("l", "left", "f"), ("f", "stroke", "f")]),
        )
        for ways, rows in breaking:
            self.assertIs(Rules(ways, rows).keeps_turns(), False, rows)

    def test_grown_words_have_the_turn_of_the_word(self):
        rows = [("f", "stroke", "flfrf"), ("l", "left", "frll"), ("r", "right", "rlfr")]
        rules = Rules(6, rows)
        self.assertTrue(rules.keeps_turns())
        for word in ("f", "l", "r", "rfr", "llf"):
            grown = word
            for times in range(3):
                grown = "".join(rules.word(letter) for letter in grown)
                self.assertEqual(rules.turn_of(grown), rules.turn_of(word))


class Kept(Case):
    def test_rows_that_are_handed_in_stay(self):
        for ways, rows in ((4, SIX), (4, []), (5, SIX), (4, SEVEN), (6, ONE + ONE)):
            handed = list(rows)
            try:
                Rules(ways, handed).rows_told().append(("x", "rest", "x"))
            except (NoPen, NoRules):
                pass
            self.assertEqual(handed, rows)

    def test_rows_changed_later_change_nothing(self):
        handed = list(SIX)
        rules = Rules(6, handed)
        handed[0] = ("s", "rest", "m")
        handed.pop()
        handed.reverse()
        self.assertEqual(rules.rows_told(), SIX)
        self.assertEqual(rules.letters(), "salzrm")
        self.assertEqual(rules.deed("s"), "stroke")
        self.assertEqual(rules.word("m"), "mszalr")
        handed.clear()
        self.assertEqual(rules.rows_told(), SIX)
        self.assertEqual(rules.turn_of("lls"), 2)

    def test_told_rows_are_the_askers_own(self):
        rules = Rules(4, SIX)
        one = rules.rows_told()
        other = rules.rows_told()
        self.assertIsNot(one, other)
        one[0] = ("s", "rest", "s")
        one.clear()
        self.assertEqual(other, SIX)
        self.assertEqual(rules.rows_told(), SIX)
        self.assertEqual(rules.letters(), "salzrm")
        self.assertEqual(rules.deed("s"), "stroke")
        self.assertEqual(rules.word("s"), "slsrs")

    def test_refusals_change_nothing(self):
        rules = Rules(4, SIX)
        for times in range(2):
            with self.assertRaises(NoLetter):
                rules.deed("q")
            with self.assertRaises(NoLetter):
                rules.word("q")
            self.no_word(1, rules.word_of, "sq")
            self.assertEqual(rules.rows_told(), SIX)
            self.assertEqual(rules.letters(), "salzrm")
            self.assertEqual(rules.word_of("sa"), "sa")

    def test_rules_do_not_share(self):
        one = Rules(4, ONE)
        other = Rules(6, [("f", "left", "ff"), ("g", "rest", "f")])
        self.assertEqual(one.rows_told(), ONE)
        self.assertEqual(one.pen().ways(), 4)
        self.assertEqual(other.letters(), "fg")
        self.assertEqual(other.pen().ways(), 6)
        with self.assertRaises(NoLetter):
            one.deed("g")


if __name__ == "__main__":
    unittest.main()
