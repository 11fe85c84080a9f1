"""Points 2, 3 and 26: the rule of the counts, and the row that follows by it."""

import random
import unittest

from plainly import DRAGON, EIGHTS, HOUSE, KOCH, MORSE, ONE, SAMPLES, SIX, SLOW, SWAP, TRIPLE, chosen_rows, counted, grown
from strokegrow.counting import next_row, rule
from strokegrow.growths import Growth
from strokegrow.rules import Rules

# six letters that only change places: in rings of six, of four and two, of three and three, and each by itself
RINGS = [[(letter, "rest", other) for letter, other in zip("abcdef", ring)]
         for ring in ("bcdefa", "bcdafe", "bcaefd", "abcdef", "badcfe")]
# a letter (a) that is in no word, one (b) that is gone behind the first round, one (c) that never goes
COMING = [("a", "rest", "bbc"), ("b", "left", "c"), ("c", "step", "c")]
ALL_ROWS = [ONE, TRIPLE, HOUSE, SWAP, MORSE, KOCH, DRAGON, SLOW, SIX, EIGHTS, COMING] + RINGS
ALL_ROWS += [[("z", "stroke", "z" * many)] for many in range(1, 9)]
ALL_ROWS += [[(letter, "step", letter * 8) for letter in "uvwxyz"], [(letter, "left", "m") for letter in "mnopqr"]]
ALL_ROWS += [chosen_rows(seed) for seed in range(60)]


def count_rows(rows, start, last):
    """For each round to the last one: how often each letter stands there, in the rows' order, and the length."""
    words = {row[0]: row[2] for row in rows}
    counts = counted(rows, start)
    told = []
    for age in range(last + 1):
        told.append(list(counts.values()) + [sum(counts.values())])
        following = dict.fromkeys(counts, 0)
        for letter in counts:
            for younger in words[letter]:
                following[younger] += counts[letter]
        counts = following
    return told


def starts_of(rows):
    """Start words: each letter, all of them, and some strewn ones of up to eight letters."""
    letters = [row[0] for row in rows]
    strewn = random.Random(len(rows))
    return letters + ["".join(letters)] + ["".join(strewn.choices(letters, k=many)) for many in (2, 5, 8)]


def follows(numbers, rows):
    """The row behind these, told anew from the words of the document."""
    row = []
    for column in range(len(rows[0])):
        number = 0
        for k in range(len(numbers)):
            number += numbers[k] * rows[len(rows) - 1 - k][column]
        row.append(number)
    return row


class TheRule(unittest.TestCase):
    def test_count_rows_are_those_of_words_written_out(self):
        for rows, start in SAMPLES:
            for age, told in enumerate(count_rows(rows, start, 4)):
                word = grown(rows, start, age)
                self.assertEqual(told, list(counted(rows, word).values()) + [len(word)])

    def test_as_many_whole_numbers_as_letters(self):
        for rows in ALL_ROWS:
            for ways in (4, 6):
                told = rule(Rules(ways, rows))
                self.assertIs(type(told), list)
                self.assertEqual([type(number) for number in told], [int] * len(rows), rows)

    def test_each_letter_and_the_length_from_round_0_on(self):
        for rows in ALL_ROWS:
            numbers = rule(Rules(4, rows))
            for start in starts_of(rows):
                counts = count_rows(rows, start, 20)
                for age in range(20 - len(rows)):
                    behind = age + len(numbers)
                    self.assertEqual(counts[behind], follows(numbers, counts[age:behind]), (rows, start, age))

    def test_up_to_round_200(self):
        for rows in ALL_ROWS[:24]:
            numbers = rule(Rules(6, rows))
            for start in (rows[-1][0], "".join(row[0] for row in rows)):
                counts = count_rows(rows, start, 200)
                for behind in range(len(numbers), 201):
                    self.assertEqual(counts[behind], follows(numbers, counts[:behind]), (rows, start, behind))

    def test_the_counts_and_lengths_of_growths(self):
        for rows, start in SAMPLES:
            rules = Rules(4, rows)
            growth = Growth(rules, start)
            numbers = rule(rules)
            told = [list(growth.counts(age).values()) + [growth.length(age)] for age in range(201)]
            for behind in range(len(numbers), 201):
                self.assertEqual(next_row(numbers, told[:behind]), told[behind], (rows, start, behind))

    def test_rules_that_can_be_no_others(self):
        for many in range(1, 9):
            self.assertEqual(rule(Rules(4, [("f", "stroke", "f" * many)])), [many])
        self.assertEqual(rule(Rules(4, [("a", "rest", "ab"), ("b", "rest", "a")])), [1, 1])
        self.assertEqual(rule(Rules(4, SWAP)), [0, 1])
        self.assertEqual(rule(Rules(4, MORSE)), [2, 0])
        self.assertEqual(rule(Rules(4, HOUSE)), [3, -2])
        self.assertEqual(rule(Rules(4, RINGS[0])), [0, 0, 0, 0, 0, 1])

    def test_the_deeds_and_the_pen_do_not_matter(self):
        for rows in (HOUSE, SIX, EIGHTS):
            others = [(letter, "rest", word) for letter, deed, word in rows]
            self.assertEqual(rule(Rules(4, rows)), rule(Rules(6, others)))

    def test_told_lists_are_the_askers_own(self):
        for rows in (ONE, HOUSE, SIX):
            rules = Rules(4, rows)
            one = rule(rules)
            other = rule(rules)
            self.assertIsNot(one, other)
            kept = list(other)
            one[0] = 99
            one.append(7)
            self.assertEqual(other, kept)
            self.assertEqual(rule(rules), kept)
            self.assertEqual(rules.rows_told(), rows)

    def test_nothing_hangs_on_what_was_asked_before(self):
        expected = [rule(Rules(4, rows)) for rows in ALL_ROWS]
        made = [Rules(4, rows) for rows in ALL_ROWS]
        for number in reversed(range(len(ALL_ROWS))):
            self.assertEqual(rule(made[number]), expected[number])


class NextRow(unittest.TestCase):
    def test_one_number(self):
        self.assertEqual(next_row([3], [[1, 2, -5]]), [3, 6, -15])
        self.assertEqual(next_row([0], [[1, 2]]), [0, 0])
        self.assertEqual(next_row([-2], [[9], [4]]), [-8])

    def test_the_first_number_is_for_the_last_row(self):
        self.assertEqual(next_row([1, 10], [[1, 2], [3, 4]]), [13, 24])
        self.assertEqual(next_row([1, 10, 100], [[1], [2], [3]]), [123])
        self.assertEqual(next_row([1, 10, 100, 1000, 10000, 100000], [[k] for k in (6, 5, 4, 3, 2, 1)]), [654321])

    def test_more_rows_than_the_rule_has_numbers(self):
        self.assertEqual(next_row([1, 1], [[50], [60], [1], [2]]), [3])
        self.assertEqual(next_row([2], [[7, 7]] * 999 + [[1, 3]]), [2, 6])
        self.assertEqual(next_row([1, 2, 3], [[9, 9, 9, 9]] * 5 + [[1, 0, 0, 4], [0, 1, 0, 4], [0, 0, 1, 4]]), [3, 2, 1, 24])

    def test_rows_of_another_length_than_the_rules(self):
        self.assertEqual(next_row([1, 1], [[1, 2, 3, 4, 5], [1, 1, 1, 1, 1]]), [2, 3, 4, 5, 6])
        self.assertEqual(next_row([1, 2, 3], [[1], [1], [1]]), [6])
        self.assertEqual(next_row([2, -1], [list(range(1000)), list(range(1, 1001))]), list(range(2, 1002)))

    def test_rows_of_no_numbers(self):
        for many in range(1, 7):
            told = next_row([5] * many, [[] for times in range(many)])
            self.assertEqual(told, [])
            self.assertIs(type(told), list)

    def test_great_numbers(self):
        great = 10 ** 199
        self.assertEqual(next_row([great, -great], [[1, great], [great, 1]]), [great * great - great, great - great * great])

    def test_strewn_rows(self):
        strewn = random.Random(26)
        for times in range(200):
            numbers = [strewn.randint(-9, 9) for k in range(strewn.randint(1, 6))]
            width = strewn.randint(0, 8)
            rows = [[strewn.randint(-99, 99) for k in range(width)] for j in range(len(numbers) + strewn.randint(0, 4))]
            self.assertEqual(next_row(numbers, rows), follows(numbers, rows) if width else [])

    def test_what_is_handed_in_stays(self):
        numbers = [2, -1, 3]
        rows = [[1, 2], [3, 4], [5, 6], [7, 8]]
        told = next_row(numbers, rows)
        self.assertEqual(told, [18, 22])
        self.assertEqual(numbers, [2, -1, 3])
        self.assertEqual(rows, [[1, 2], [3, 4], [5, 6], [7, 8]])

    def test_told_lists_are_the_askers_own(self):
        numbers = [1]
        rows = [[4, 5]]
        one = next_row(numbers, rows)
        other = next_row(numbers, rows)
        self.assertIsNot(one, other)
        self.assertIsNot(one, rows[0])
        one[0] = 77
        one.append(1)
        self.assertEqual((other, rows, numbers), ([4, 5], [[4, 5]], [1]))
        rows[0][0] = 6
        numbers[0] = 2
        self.assertEqual(other, [4, 5])
        self.assertEqual(next_row(numbers, rows), [12, 10])


if __name__ == "__main__":
    unittest.main()
