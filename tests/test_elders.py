"""Points 2, 3, 27 and 28: beginnings, how far they go along a word, and elder words."""

import itertools
import random
import unittest

from plainly import DRAGON, EIGHTS, HOUSE, KOCH, MORSE, ONE, SIX, SLOW, SWAP, TRIPLE, chosen_rows, grown
from strokegrow.elders import elders, goes
from strokegrow.errors import NoWord
from strokegrow.rules import Rules

# many elder words grow to the same word
SAME = [("a", "rest", "aa"), ("b", "left", "aa"), ("c", "step", "a"), ("d", "rest", "aaab")]
# a letter that looks best at first leads nowhere; the way to the end begins with a short word
LURE = [("a", "rest", "xyxz"), ("b", "left", "xy"), ("x", "step", "xyz"), ("y", "rest", "yx"), ("z", "rest", "x")]
ALL_ROWS = [ONE, TRIPLE, HOUSE, SWAP, MORSE, KOCH, DRAGON, SLOW, SIX, EIGHTS, SAME, LURE]
ALL_ROWS += [[("f", "rest", "f" * many)] for many in (2, 5, 8)]
ALL_ROWS += [chosen_rows(seed) for seed in range(40)]


def agree(one, other):
    """How many letters both have in common from their first ones on."""
    return next((k for k, (a, b) in enumerate(zip(one, other)) if a != b), min(len(one), len(other)))


def gone(rows, elder, offset, word):
    """How far the elder word goes, as it is told in the document."""
    return agree(grown(rows, elder, 1)[offset:], word)


def beginnings(rows):
    """All beginnings in the order of the document."""
    return [(letter, offset) for letter, deed, word in rows for offset in range(len(word))]


def fars_of_all_elders(rows, word):
    """For each beginning the greatest that any elder word goes, of all lengths up to the word's own.

    What an elder word shows has a letter at least for each of its own, so a longer one goes no further.
    """
    fars = {}
    letters = [row[0] for row in rows]
    words = {row[0]: row[2] for row in rows}
    for many in range(len(word)):
        for further in itertools.product(letters, repeat=many):
            behind = "".join(words[letter] for letter in further)
            for letter, offset in beginnings(rows):
                far = agree(words[letter][offset:] + behind, word)
                fars[letter, offset] = max(far, fars.get((letter, offset), 0))
    return fars


def fars_place_by_place(rows, word):
    """For each beginning how far it goes, by all places that whole words of letters lead to."""
    words = [row[2] for row in rows]
    fars = {}
    for letter, offset in beginnings(rows):
        shown = dict((row[0], row[2]) for row in rows)[letter][offset:]
        far = agree(shown, word)
        reached = [far] if far == len(shown) else []
        for place in reached:
            for further in words:
                many = agree(further, word[place:])
                far = max(far, place + many)
                if many == len(further) and place + many not in reached:
                    reached.append(place + many)
        fars[letter, offset] = far
    return fars


def words_for(rows, many, seed):
    """Words of so many letters: parts of grown ones, strewn ones, and of one letter alone."""
    letters = [row[0] for row in rows]
    strewn = random.Random(seed)
    told = [letters[0] * many, letters[-1] * many]
    for times in range(3):
        told.append("".join(strewn.choices(letters, k=many)))
        long = grown(rows, "".join(strewn.choices(letters, k=many + 1)), 1)
        begin = strewn.randint(0, len(long) - many)
        told.append(long[begin:begin + many])
    return told


class Case(unittest.TestCase):
    def no_word(self, at, rules, word):
        with self.assertRaises(NoWord, msg=word) as caught:
            elders(rules, word)
        self.assertEqual(caught.exception.at, at, word)

    def holds(self, rows, word, fars):
        """What is told of the word has these fars, and elder words as the document asks for them."""
        told = elders(Rules(4, rows), word)
        self.assertIs(type(told), list)
        self.assertEqual([one[:2] for one in told], beginnings(rows))
        for one in told:
            letter, offset, far, elder = one
            where = (rows, word, one)
            self.assertEqual([type(value) for value in one[:3]], [str, int, int], where)
            self.assertIs(type(one), tuple)
            self.assertEqual(far, fars[letter, offset], where)
            self.assertEqual(elder is None, far < len(word), where)
            if elder is not None:
                self.assertEqual(elder[0], letter, where)
                self.assertTrue(grown(rows, elder, 1)[offset:].startswith(word), where)
                self.assertTrue(len(elder) == 1 or gone(rows, elder[:-1], offset, word) < len(word), where)


class LedBack(Case):
    def test_against_all_elder_words(self):
        for number, rows in enumerate(ALL_ROWS):
            for many in range(1, 13):
                if len(rows) ** many <= 1300:
                    for word in words_for(rows, many, number):
                        self.holds(rows, word, fars_of_all_elders(rows, word))

    def test_both_ways_of_this_test_agree(self):
        for rows in (HOUSE, SWAP, MORSE, SAME, SLOW):
            for word in words_for(rows, 5, 1):
                self.assertEqual(fars_of_all_elders(rows, word), fars_place_by_place(rows, word))

    def test_words_of_each_length(self):
        for number, rows in enumerate(ALL_ROWS):
            for many in range(1, 13):
                for word in words_for(rows, many, number + many):
                    self.holds(rows, word, fars_place_by_place(rows, word))

    def test_every_short_word(self):
        for rows in (HOUSE, SWAP, MORSE, SAME, LURE, DRAGON):
            letters = [row[0] for row in rows]
            for many in (1, 2, 3):
                for signs in itertools.product(letters, repeat=many):
                    self.holds(rows, "".join(signs), fars_place_by_place(rows, "".join(signs)))

    def test_known_words(self):
        self.assertEqual(elders(Rules(4, ONE), "f"), [("f", 0, 1, "f")])
        self.assertEqual(elders(Rules(4, ONE), "f" * 12), [("f", 0, 12, "f" * 12)])
        self.assertEqual(elders(Rules(4, TRIPLE), "ffff"), [("f", 0, 4, "ff"), ("f", 1, 4, "ff"), ("f", 2, 4, "ff")])
        self.assertEqual(elders(Rules(4, TRIPLE), "f" * 10), [("f", 0, 10, "f" * 4), ("f", 1, 10, "f" * 4), ("f", 2, 10, "f" * 4)])
        self.assertEqual(elders(Rules(4, SWAP), "ab"), [("a", 0, 0, None), ("b", 0, 2, "ba")])
        self.assertEqual(
            elders(Rules(4, MORSE), "abb"), [("a", 0, 3, "ab"), ("a", 1, 0, None), ("b", 0, 0, None), ("b", 1, 2, None)]
        )
        self.assertEqual(
            elders(Rules(6, HOUSE), "ff"), [("f", 0, 1, None), ("f", 1, 0, None), ("f", 2, 2, "ff"), ("l", 0, 0, None)]
        )

    def test_one_elder_letter_shows_the_whole_word(self):
        told = elders(Rules(4, EIGHTS), "cdef")
        self.assertIn(("a", 2, 4, "a"), told)
        told = elders(Rules(4, EIGHTS), "abcdefab")
        self.assertIn(("a", 0, 8, "a"), told)
        self.assertEqual([one for one in elders(Rules(4, EIGHTS), "ffffffff") if one[:2] == ("d", 0)], [("d", 0, 8, "d")])

    def test_a_letter_that_leads_nowhere(self):
        # a shows xyxz, but only b, x and more lead on behind xyx
        word = "xyxyzyx"
        self.assertEqual(elders(Rules(4, LURE), word)[:1], [("a", 0, 3, None)])
        told = {one[:2]: one[2:] for one in elders(Rules(4, LURE), word)}
        self.assertEqual(told["b", 0], (7, "bxy"))
        self.assertEqual(told["x", 0], (2, None))

    def test_nothing_goes_where_no_word_has_the_first_letter(self):
        told = elders(Rules(4, SIX), "n")
        self.assertEqual([one for one in told if one[3] is not None], [("n", 0, 1, "n"), ("n", 1, 1, "n")])
        self.assertEqual({one[2] for one in elders(Rules(4, [("a", "rest", "b"), ("b", "rest", "b")]), "ab")}, {0})

    def test_several_elder_words(self):
        for word in ("a", "aa", "aaaa", "aaaaa", "aaab", "aaaaab", "a" * 12, "a" * 11 + "b"):
            self.holds(SAME, word, fars_place_by_place(SAME, word))
        told = elders(Rules(4, SAME), "aaaaaaa")
        self.assertEqual([one[2] for one in told], [7, 7, 7, 7, 7, 3, 2, 1, 0])

    def test_the_pen_and_the_deeds_do_not_matter(self):
        for rows in (HOUSE, SIX, LURE):
            others = [(letter, "rest", word) for letter, deed, word in rows]
            for word in words_for(rows, 6, 3):
                self.assertEqual(
                    [one[:3] for one in elders(Rules(4, rows), word)], [one[:3] for one in elders(Rules(6, others), word)]
                )


class Refused(Case):
    def test_one_to_twelve_letters(self):
        rules = Rules(4, HOUSE)
        self.assertEqual(len(elders(rules, "f")), 4)
        self.assertEqual(len(elders(rules, "fl" * 6)), 4)

    def test_no_word(self):
        rules = Rules(4, HOUSE)
        refused = (
            ("", 0), ("q", 0), ("F", 0), (" ", 0), ("fq", 1), ("lf ", 2), ("f" * 11 + "q", 11), ("f" * 13, 12),
            ("fl" * 6 + "q", 12), ("f" * 1000, 12), ("fffqfffffffff", 3), ("lllllllllllQ", 11),
        )
        for word, at in refused:
            for times in range(2):
                self.no_word(at, rules, word)
        self.assertEqual(rules.rows_told(), HOUSE)


class Goes(unittest.TestCase):
    def test_every_short_elder_word_with_each_offset(self):
        for rows in (HOUSE, MORSE, SAME, LURE):
            letters = [row[0] for row in rows]
            words = {row[0]: row[2] for row in rows}
            rules = Rules(4, rows)
            for many in (1, 2, 3):
                for signs in itertools.product(letters, repeat=many):
                    for offset in range(len(words[signs[0]])):
                        for word in words_for(rows, 4, many):
                            elder = "".join(signs)
                            told = goes(rules, elder, offset, word)
                            self.assertEqual(told, gone(rows, elder, offset, word))
                            self.assertIs(type(told), int)

    def test_longer_elder_words(self):
        for rows in ALL_ROWS:
            rules = Rules(6, rows)
            letters = [row[0] for row in rows]
            for many in (1, 5, 12, 19, 20):
                elder = "".join(random.Random(many).choices(letters, k=many))
                for offset in range(len(rules.word(elder[0]))):
                    shown = grown(rows, elder, 1)[offset:]
                    for word in words_for(rows, 12, many) + [shown[:12], shown[:5], shown[:1]]:
                        self.assertEqual(goes(rules, elder, offset, word), agree(shown, word))

    def test_known_ones(self):
        rules = Rules(4, HOUSE)
        self.assertEqual(goes(rules, "f", 0, "flf"), 3)
        self.assertEqual(goes(rules, "f", 0, "flfl"), 3)
        self.assertEqual(goes(rules, "f", 0, "fl"), 2)
        self.assertEqual(goes(rules, "f", 1, "flf"), 0)
        self.assertEqual(goes(rules, "f", 2, "flf"), 1)
        self.assertEqual(goes(rules, "fl", 2, "flf"), 2)
        self.assertEqual(goes(rules, "flf", 2, "flfl"), 4)
        self.assertEqual(goes(rules, "l", 0, "f"), 0)
        self.assertEqual(goes(rules, "l" * 20, 0, "l" * 12), 12)
        self.assertEqual(goes(rules, "f" * 20, 0, "f"), 1)
        self.assertEqual(goes(Rules(4, EIGHTS), "d" * 20, 7, "f" * 12), 12)
        self.assertEqual(goes(Rules(4, TRIPLE), "f", 0, "f" * 12), 3)

    def test_longer_elder_words_go_at_least_as_far(self):
        for rows in (MORSE, SAME, DRAGON):
            rules = Rules(4, rows)
            for word in words_for(rows, 8, 5):
                for letter, offset, far, elder in elders(rules, word):
                    if elder is not None:
                        for further in rules.letters():
                            self.assertEqual(goes(rules, elder + further * 5, offset, word), len(word))


class Kept(unittest.TestCase):
    def test_told_lists_are_the_askers_own(self):
        rules = Rules(4, HOUSE)
        one = elders(rules, "flf")
        other = elders(rules, "flf")
        self.assertIsNot(one, other)
        kept = list(other)
        one[0] = None
        one.clear()
        self.assertEqual(other, kept)
        self.assertEqual(elders(rules, "flf"), kept)

    def test_nothing_hangs_on_what_was_asked_before(self):
        for rows in (SAME, SIX, LURE):
            asked = [word for many in (1, 4, 12) for word in words_for(rows, many, 7)]
            alone = [elders(Rules(4, rows), word) for word in asked]
            rules = Rules(4, rows)
            for number in reversed(range(len(asked))):
                self.assertEqual(elders(rules, asked[number]), alone[number])
            self.assertEqual(rules.rows_told(), rows)


if __name__ == "__main__":
    unittest.main()
