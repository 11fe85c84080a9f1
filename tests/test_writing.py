"""Points 2, 12 and 13: letters counted, words grown by one round, and rounds written out."""

import unittest

from plainly import EIGHTS, HOUSE, KOCH, MORSE, ONE, SAMPLES, SIX, SLOW, SWAP, TRIPLE, chosen_rows, counted, grown
from strokegrow.errors import GrowError, NoRound, NoWord, TooLong
from strokegrow.rules import Rules
from strokegrow.writing import once, tally, written

PAIR = [("a", "stroke", "aa"), ("b", "left", "aaa"), ("c", "rest", "aaaaaaaa"), ("d", "step", "d")]
FAR_ROUNDS = (-1, -2, -200, 201, 202, 400, 10 ** 199, -(10 ** 199), 10 ** 200 - 1)


class Tally(unittest.TestCase):
    def test_each_letter_of_a_word(self):
        rules = Rules(4, SIX)
        self.assertEqual(tally(rules, "sslat"), {"s": 2, "t": 1, "l": 1, "r": 0, "n": 0, "a": 1})
        self.assertEqual(tally(rules, "n"), {"s": 0, "t": 0, "l": 0, "r": 0, "n": 1, "a": 0})
        self.assertEqual(tally(Rules(6, ONE), "fff"), {"f": 3})

    def test_the_text_without_signs(self):
        self.assertEqual(tally(Rules(4, SIX), ""), dict.fromkeys("stlrna", 0))
        self.assertEqual(tally(Rules(4, ONE), ""), {"f": 0})

    def test_long_words(self):
        self.assertEqual(tally(Rules(4, HOUSE), "fl" * 200), {"f": 200, "l": 200})
        self.assertEqual(tally(Rules(4, HOUSE), "f" * 400), {"f": 400, "l": 0})

    def test_grown_words(self):
        for rows, start in SAMPLES:
            word = grown(rows, start, 2)
            told = tally(Rules(6, rows), word)
            self.assertEqual(told, counted(rows, word))
            self.assertIs(type(told), dict)

    def test_a_told_dict_is_the_askers_own(self):
        rules = Rules(4, HOUSE)
        for word in ("ffl", ""):
            one = tally(rules, word)
            other = tally(rules, word)
            self.assertIsNot(one, other)
            one["f"] = 77
            one["q"] = 5
            one.pop("l")
            self.assertEqual(other, counted(HOUSE, word))
            self.assertEqual(tally(rules, word), counted(HOUSE, word))
        self.assertEqual(rules.rows_told(), HOUSE)


class Once(unittest.TestCase):
    def test_each_letter(self):
        for rows, start in SAMPLES:
            for letter, deed, word in rows:
                self.assertEqual(once(Rules(4, rows), letter), word)

    def test_words_in_their_order(self):
        self.assertEqual(once(Rules(4, HOUSE), "fl"), "flfl")
        self.assertEqual(once(Rules(4, HOUSE), "lf"), "lflf")
        self.assertEqual(once(Rules(4, SIX), "stlrna"), "slsrttrlnnsaat")
        self.assertEqual(once(Rules(6, SWAP), "abba"), "baab")

    def test_the_text_without_signs(self):
        for rows, start in SAMPLES:
            self.assertEqual(once(Rules(6, rows), ""), "")

    def test_just_400(self):
        rules = Rules(4, PAIR)
        self.assertEqual(once(rules, "a" * 200), "a" * 400)
        self.assertEqual(once(rules, "c" * 50), "a" * 400)
        self.assertEqual(once(rules, "d" * 400), "d" * 400)
        self.assertEqual(once(rules, "b" + "a" * 198 + "d"), "a" * 399 + "d")

    def test_401_and_more(self):
        rules = Rules(4, PAIR)
        for word in ("b" + "a" * 199, "d" + "a" * 200, "a" * 199 + "b", "c" * 50 + "d", "a" * 201, "c" * 400, "b" * 400):
            with self.assertRaises(TooLong, msg=word):
                once(rules, word)

    def test_a_refused_word_changes_nothing(self):
        rules = Rules(4, PAIR)
        for times in range(2):
            with self.assertRaises(TooLong):
                once(rules, "c" * 51)
            self.assertEqual(once(rules, "abd"), "aaaaad")
            self.assertEqual(rules.rows_told(), PAIR)


class Written(unittest.TestCase):
    def test_round_0_is_the_word(self):
        for rows, start in SAMPLES:
            self.assertEqual(written(Rules(4, rows), start, 0), start)

    def test_round_1(self):
        for rows, start in SAMPLES:
            rules = Rules(4, rows)
            self.assertEqual(written(rules, start, 1), once(rules, start))

    def test_round_by_round(self):
        told = refused = 0
        for rows, start in SAMPLES + tuple((chosen_rows(seed), None) for seed in range(20)):
            rules = Rules(6, rows)
            start = start or rows[-1][0]
            word = start
            for age in range(7):
                if len(word) <= 400:
                    self.assertEqual(written(rules, start, age), word)
                    told += 1
                else:
                    self.assertRaises(TooLong, written, rules, start, age)
                    refused += 1
                word = grown(rows, word, 1)
        self.assertGreater(told, 50)
        self.assertGreater(refused, 20)

    def test_each_round_is_the_one_ahead_grown(self):
        for rows, start, rounds in ((SLOW, "aa", 190), (SWAP, "abaabbab", 200), (ONE, "f", 200), (SIX, "taalr", 180)):
            rules = Rules(4, rows)
            for age in range(rounds):
                self.assertEqual(written(rules, start, age + 1), once(rules, written(rules, start, age)))

    def test_round_200_of_words_that_never_grow(self):
        self.assertEqual(written(Rules(4, ONE), "f", 200), "f")
        self.assertEqual(written(Rules(6, ONE), "ffffffff", 200), "ffffffff")
        self.assertEqual(written(Rules(4, SWAP), "aab", 200), "aab")
        self.assertEqual(written(Rules(4, SWAP), "aab", 199), "bba")
        self.assertEqual(written(Rules(4, SIX), "lrt", 199), "rlt")

    def test_round_200_of_words_that_grow_slowly(self):
        self.assertEqual(written(Rules(4, SIX), "a", 200), "a" + "t" * 200)
        self.assertEqual(written(Rules(4, SIX), "at", 199), "a" + "t" * 200)
        rows = [("a", "step", "abb"), ("b", "stroke", "b")]
        self.assertEqual(written(Rules(4, rows), "a", 199), "a" + "b" * 398)
        self.assertRaises(TooLong, written, Rules(4, rows), "a", 200)
        self.assertEqual(written(Rules(4, rows), "ab", 199), "a" + "b" * 399)
        self.assertRaises(TooLong, written, Rules(4, rows), "abb", 199)

    def test_just_400_and_401(self):
        self.assertEqual(written(Rules(4, TRIPLE), "f", 5), "f" * 243)
        self.assertRaises(TooLong, written, Rules(4, TRIPLE), "f", 6)
        rows = [("a", "stroke", "bbbbb"), ("b", "left", "c" * 8), ("c", "rest", "ddddd"), ("d", "rest", "dd")]
        self.assertEqual(written(Rules(4, rows), "aa", 3), "d" * 400)
        self.assertRaises(TooLong, written, Rules(4, rows), "aa", 4)
        self.assertRaises(TooLong, written, Rules(4, rows), "aad", 3)
        rows = [("a", "stroke", "bbbbb"), ("b", "left", "c" * 8), ("c", "rest", "ddddd"), ("d", "rest", "d")]
        self.assertEqual(written(Rules(4, rows), "aa", 200), "d" * 400)
        self.assertEqual(written(Rules(4, rows), "a", 200), "d" * 200)
        self.assertRaises(TooLong, written, Rules(4, rows), "aad", 3)
        self.assertRaises(TooLong, written, Rules(4, rows), "daa", 200)
        self.assertEqual(written(Rules(4, rows), "aad", 2), "c" * 80 + "d")

    def test_too_long_in_far_rounds(self):
        for age in (9, 100, 199, 200):
            for rows in (TRIPLE, EIGHTS, MORSE, KOCH):
                self.assertRaises(TooLong, written, Rules(4, rows), rows[0][0], age)

    def test_no_word(self):
        rules = Rules(4, HOUSE)
        refused = (("", 0), ("q", 0), ("fq", 1), ("f l", 1), ("fffffffff", 8), ("f" * 400, 8), ("lflflflfq", 8), ("F", 0))
        for word, at in refused:
            for age in (0, 1, 200) + FAR_ROUNDS:
                with self.assertRaises(NoWord, msg=(word, age)) as caught:
                    written(rules, word, age)
                self.assertEqual(caught.exception.at, at)
        self.assertEqual(written(rules, "ffffffff", 0), "ffffffff")

    def test_no_round(self):
        for rows in (ONE, SWAP, TRIPLE, EIGHTS):
            for age in FAR_ROUNDS:
                with self.assertRaises(NoRound, msg=age) as caught:
                    written(Rules(4, rows), rows[0][0], age)
                self.assertIsInstance(caught.exception, GrowError)

    def test_refusals_change_nothing(self):
        rules = Rules(4, HOUSE)
        for times in range(2):
            self.assertRaises(TooLong, written, rules, "f", 200)
            self.assertRaises(NoRound, written, rules, "f", 201)
            self.assertRaises(NoWord, written, rules, "", 1)
            self.assertEqual(written(rules, "f", 2), "flflflf")
            self.assertEqual(written(rules, "f", 1), "flf")
            self.assertEqual(rules.rows_told(), HOUSE)


if __name__ == "__main__":
    unittest.main()
