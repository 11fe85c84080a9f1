"""Points 2, 3 and 14 to 18: growths and their rounds, lengths, counts, places, elders and parts."""

import random
import unittest

from plainly import (
    DRAGON, EIGHTS, HOUSE, KOCH, MORSE, ONE, SAMPLES, SIX, SLOW, SWAP, TRIPLE, chosen_numbers, chosen_rows, counted,
    grown,
)
from strokegrow.errors import NoLetter, NoPlace, NoRound, NoWord, TooLong
from strokegrow.growths import Growth
from strokegrow.rules import Rules
from strokegrow.writing import tally, written

FAR_ROUNDS = (-1, -2, -200, 201, 202, 10 ** 199, -(10 ** 199))
NO_LETTERS = ("", "q", "F", "fl", "lf", "ff", " ", "f ", "stroke", "f" * 1000)
DEEP = ((TRIPLE, "ff"), (MORSE, "ab"), (HOUSE, "lf"), (KOCH, "frrf"), (DRAGON, "x"), (SIX, "nsa"), (EIGHTS, "fedcbaab"))


def small_growths(most):
    """Growths in both pens with a round and its word, of at most so many letters."""
    told = []
    strewn = [(chosen_rows(seed), chosen_rows(seed)[0][0]) for seed in range(30)]
    for number, (rows, start) in enumerate(list(SAMPLES) + strewn):
        for age in range(6):
            word = grown(rows, start, age)
            if len(word) <= most:
                told.append((Growth(Rules((4, 6)[number % 2], rows), start), rows, age, word))
    return told


def all_asked(growth, age):
    """Questions about a round, each as a name with what is handed in: some have answers, some are refused."""
    length = growth.length(age)
    places = [-1, 0, 1, length // 3, length // 2, length - 1, length, length + 1]
    letters = growth.rules_told().letters()
    asked = [("length", (age,)), ("counts", (age,)), ("length", (201,)), ("place_of", (age, "Q", 0))]
    for place in places:
        asked.extend((name, (age, place)) for name in ("ahead", "letter_at", "elder_of", "younger"))
        asked.extend(("place_of", (age, letter, place)) for letter in letters)
        asked.extend(("part", (age, place, end)) for end in (place - 1, place, place + 3, place + 401, length))
    return asked


def answer(growth, name, handed):
    """What the growth answers, or what it refuses with."""
    try:
        return getattr(growth, name)(*handed)
    except (NoRound, TooLong) as refusal:
        return type(refusal)
    except NoLetter as refusal:
        return (NoLetter, refusal.letter)
    except NoPlace as refusal:
        return (NoPlace, refusal.place)


class Case(unittest.TestCase):
    def no_place(self, place, ask, *handed):
        with self.assertRaises(NoPlace, msg=handed) as caught:
            ask(*handed)
        self.assertEqual(caught.exception.place, place, handed)

    def no_letter(self, letter, ask, *handed):
        with self.assertRaises(NoLetter, msg=handed) as caught:
            ask(*handed)
        self.assertEqual(caught.exception.letter, letter, handed)


class Made(Case):
    def test_rules_and_start(self):
        for rows, start in SAMPLES:
            rules = Rules(4, rows)
            growth = Growth(rules, start)
            self.assertIsInstance(growth.rules_told(), Rules)
            self.assertEqual(growth.rules_told().rows_told(), rows)
            self.assertEqual(growth.rules_told().pen().ways(), 4)
            self.assertEqual(growth.start_told(), start)

    def test_starts_of_each_length(self):
        for many in range(1, 9):
            self.assertEqual(Growth(Rules(6, HOUSE), "f" * many).start_told(), "f" * many)

    def test_no_word(self):
        refused = (("", 0), ("q", 0), ("fq", 1), ("lf ", 2), ("fffffffff", 8), ("lflflflfq", 8), ("f" * 1000, 8), ("F", 0))
        for start, at in refused:
            for ways in (4, 6):
                with self.assertRaises(NoWord, msg=start) as caught:
                    Growth(Rules(ways, HOUSE), start)
                self.assertEqual(caught.exception.at, at)

    def test_growths_of_the_same_rules_do_not_share(self):
        rules = Rules(4, HOUSE)
        one = Growth(rules, "f")
        other = Growth(rules, "lll")
        self.assertEqual((one.length(3), other.length(3)), (15, 3))
        self.assertEqual((one.counts(1), other.counts(1)), ({"f": 2, "l": 1}, {"f": 0, "l": 3}))


class WrittenOut(Case):
    """Every answer held against the word that is written out."""

    def test_length_and_counts(self):
        for growth, rows, age, word in small_growths(2000):
            self.assertEqual(growth.length(age), len(word))
            self.assertEqual(growth.counts(age), counted(rows, word))
            self.assertIs(type(growth.counts(age)), dict)

    def test_letters_and_counts_ahead_at_every_place(self):
        for growth, rows, age, word in small_growths(100):
            for place, letter in enumerate(word):
                self.assertEqual(growth.letter_at(age, place), letter)
            for place in range(len(word) + 1):
                self.assertEqual(growth.ahead(age, place), counted(rows, word[:place]))

    def test_place_of_every_number(self):
        for growth, rows, age, word in small_growths(100):
            numbers = dict.fromkeys([row[0] for row in rows], 0)
            for place, letter in enumerate(word):
                self.assertEqual(growth.place_of(age, letter, numbers[letter]), place)
                numbers[letter] += 1
            for letter in numbers:
                self.no_place(numbers[letter], growth.place_of, age, letter, numbers[letter])
                self.no_place(-1, growth.place_of, age, letter, -1)

    def test_elder_and_younger_of_every_place(self):
        for growth, rows, age, word in small_growths(100):
            words = {row[0]: row[2] for row in rows}
            begins = 0
            for place, letter in enumerate(word):
                self.assertEqual(growth.younger(age, place), begins)
                for offset in range(len(words[letter])):
                    self.assertEqual(growth.elder_of(age + 1, begins + offset), (place, offset))
                begins += len(words[letter])
            self.assertEqual(growth.younger(age, len(word)), begins)
            self.assertEqual(growth.length(age + 1), begins)

    def test_every_part(self):
        for growth, rows, age, word in small_growths(40):
            for begin in range(len(word) + 1):
                for end in range(begin, len(word) + 1):
                    self.assertEqual(growth.part(age, begin, end), word[begin:end])

    def test_the_whole_round_as_a_part(self):
        for growth, rows, age, word in small_growths(400):
            self.assertEqual(growth.part(age, 0, len(word)), word)
            self.assertEqual(growth.part(age, 0, len(word)), written(Rules(4, rows), growth.start_told(), age))

    def test_far_places_that_are_none(self):
        for growth, rows, age, word in small_growths(60):
            length = len(word)
            for place in (-1, -2, -length - 1, length + 1, length + 2, 10 ** 199, -(10 ** 199)):
                for ask in (growth.ahead, growth.letter_at, growth.younger):
                    self.no_place(place, ask, age, place)
                self.no_place(place, growth.part, age, place, place)
                self.no_place(place, growth.part, age, 0, place)
            self.no_place(length, growth.letter_at, age, length)
            if age > 0:
                for place in (-1, -length, length, length + 1, 10 ** 199):
                    self.no_place(place, growth.elder_of, age, place)


class ByRule(Case):
    """Answers in round 200 that are known otherwise."""

    def test_lengths_and_counts(self):
        self.assertEqual(Growth(Rules(4, ONE), "fff").length(200), 3)
        self.assertEqual(Growth(Rules(4, TRIPLE), "ff").length(200), 2 * 3 ** 200)
        self.assertEqual(Growth(Rules(4, TRIPLE), "ff").counts(199), {"f": 2 * 3 ** 199})
        self.assertEqual(Growth(Rules(4, HOUSE), "f").counts(200), {"f": 2 ** 200, "l": 2 ** 200 - 1})
        self.assertEqual(Growth(Rules(6, EIGHTS), "fedcbaab").length(200), 8 ** 201)
        self.assertEqual(len(str(Growth(Rules(6, EIGHTS), "fedcbaab").length(200))), 182)
        koch = Growth(Rules(6, KOCH), "frrf")
        self.assertEqual(koch.counts(200)["f"], 2 * 4 ** 200)
        self.assertEqual(Growth(Rules(4, SIX), "a").counts(200), {"s": 0, "t": 200, "l": 0, "r": 0, "n": 0, "a": 1})

    def test_fibonacci(self):
        growth = Growth(Rules(4, [("a", "rest", "ab"), ("b", "rest", "a")]), "a")
        one, other = 1, 2
        for age in range(201):
            self.assertEqual(growth.length(age), one)
            one, other = other, one + other

    def test_morse(self):
        growth = Growth(Rules(4, MORSE), "a")
        self.assertEqual(growth.length(200), 2 ** 200)
        for place in chosen_numbers(1, 60, 0, 2 ** 200 - 1):
            odd = bin(place).count("1") % 2
            self.assertEqual(growth.letter_at(200, place), "ab"[odd])
            self.assertEqual(growth.place_of(200, "ab"[odd], place // 2), place)
            lone = place % 2 * (bin(place - 1).count("1") % 2)
            self.assertEqual(growth.ahead(200, place), {"a": place - place // 2 - lone, "b": place // 2 + lone})
            self.assertEqual(growth.elder_of(200, place), (place // 2, place % 2))
        self.assertEqual(growth.ahead(200, 2 ** 200), {"a": 2 ** 199, "b": 2 ** 199})
        self.assertEqual(growth.younger(199, 2 ** 199), 2 ** 200)
        self.assertEqual(growth.younger(199, 2 ** 190 + 5), 2 ** 191 + 10)

    def test_eights_by_the_figures_of_the_place(self):
        start = "fedcbaab"
        growth = Growth(Rules(6, EIGHTS), start)
        words = {row[0]: row[2] for row in EIGHTS}
        for place in chosen_numbers(2, 40, 0, 8 ** 201 - 1):
            letter = start[place // 8 ** 200]
            for age in range(199, -1, -1):
                letter = words[letter][place // 8 ** age % 8]
            self.assertEqual(growth.letter_at(200, place), letter)
            self.assertEqual(growth.elder_of(200, place), (place // 8, place % 8))
            self.assertEqual(growth.younger(199, place // 8), place // 8 * 8)

    def test_parts_of_slow_growth(self):
        growth = Growth(Rules(4, SIX), "ata")
        word = "a" + "t" * 200 + "ta" + "t" * 200
        self.assertEqual(growth.length(200), 403)
        self.assertEqual(growth.part(200, 0, 400), word[:400])
        self.assertEqual(growth.part(200, 3, 403), word[3:])
        self.assertRaises(TooLong, growth.part, 200, 0, 401)
        for place in (0, 1, 200, 201, 202, 203, 402):
            self.assertEqual(growth.letter_at(200, place), word[place])

    def test_letters_that_give_way_to_one_another(self):
        growth = Growth(Rules(4, SWAP), "abbab")
        for age in (0, 1, 2, 3, 199, 200):
            word = "abbab" if age % 2 == 0 else "baaba"
            self.assertEqual(growth.part(age, 0, 5), word)
            self.assertEqual("".join(growth.letter_at(age, place) for place in range(5)), word)
            self.assertEqual(growth.counts(age), counted(SWAP, word))
            self.assertEqual(growth.place_of(age, "a", 1), [place for place in range(5) if word[place] == "a"][1])
        self.assertEqual([growth.elder_of(200, place) for place in range(5)], [(place, 0) for place in range(5)])
        slow = Growth(Rules(4, SLOW), "a")
        self.assertEqual(slow.part(200, 0, 201), "a" + "bc" * 100)
        self.assertEqual(slow.part(199, 0, 200), "a" + "bc" * 99 + "b")


class Deep(Case):
    """Places of up to a hundred and eighty figures, held against the elder's word."""

    def test_elders_down_to_the_start_word(self):
        for rows, start in DEEP:
            growth = Growth(Rules(6, rows), start)
            words = {row[0]: row[2] for row in rows}
            for place in chosen_numbers(3, 5, 0, growth.length(200) - 1):
                for age in range(200, 0, -1):
                    elder, offset = growth.elder_of(age, place)
                    letter = growth.letter_at(age - 1, elder)
                    self.assertEqual(growth.letter_at(age, place), words[letter][offset])
                    self.assertEqual(growth.younger(age - 1, elder) + offset, place)
                    place = elder
                self.assertEqual(growth.letter_at(0, place), start[place])

    def test_counts_ahead_are_those_of_the_elders_words(self):
        for rows, start in DEEP:
            rules = Rules(4, rows)
            growth = Growth(rules, start)
            for place in chosen_numbers(4, 12, 0, growth.length(200) - 1):
                elder, offset = growth.elder_of(200, place)
                elders = growth.ahead(199, elder)
                expected = tally(rules, rules.word(growth.letter_at(199, elder))[:offset])
                for letter in elders:
                    for younger in rules.word(letter):
                        expected[younger] += elders[letter]
                told = growth.ahead(200, place)
                self.assertEqual(told, expected)
                self.assertEqual(sum(told.values()), place)

    def test_a_place_is_found_by_its_letters_number(self):
        for rows, start in DEEP:
            growth = Growth(Rules(4, rows), start)
            for place in chosen_numbers(5, 20, 0, growth.length(200) - 1):
                letter = growth.letter_at(200, place)
                self.assertEqual(growth.place_of(200, letter, growth.ahead(200, place)[letter]), place)

    def test_a_letter_is_found_by_its_number(self):
        for rows, start in DEEP:
            growth = Growth(Rules(4, rows), start)
            for letter, count in growth.counts(200).items():
                if count:
                    for number in chosen_numbers(6, 12, 0, count - 1):
                        place = growth.place_of(200, letter, number)
                        self.assertEqual(growth.letter_at(200, place), letter)
                        self.assertEqual(growth.ahead(200, place)[letter], number)
                self.no_place(count, growth.place_of, 200, letter, count)
                self.no_place(-1, growth.place_of, 200, letter, -1)

    def test_parts_are_the_letters_at_their_places(self):
        for rows, start in DEEP:
            growth = Growth(Rules(4, rows), start)
            length = growth.length(200)
            for begin in chosen_numbers(7, 4, 0, length - 400):
                part = growth.part(200, begin, begin + 400)
                self.assertEqual(len(part), 400)
                for place in chosen_numbers(8, 12, 0, 399):
                    self.assertEqual(growth.letter_at(200, begin + place), part[place])
                self.assertEqual(growth.part(200, begin, begin + 150) + growth.part(200, begin + 150, begin + 400), part)
                before = growth.ahead(200, begin)
                behind = growth.ahead(200, begin + 400)
                self.assertEqual({letter: behind[letter] - before[letter] for letter in before}, counted(rows, part))

    def test_a_part_is_the_elders_part_grown(self):
        for rows, start in DEEP:
            rules = Rules(6, rows)
            growth = Growth(rules, start)
            for begin in chosen_numbers(9, 6, 0, growth.length(199) - 40):
                word = grown(rows, growth.part(199, begin, begin + 40), 1)
                first = growth.younger(199, begin)
                self.assertEqual(growth.younger(199, begin + 40), first + len(word))
                self.assertEqual(growth.part(200, first, first + len(word)), word)

    def test_ends_of_round_200(self):
        for rows, start in DEEP:
            growth = Growth(Rules(4, rows), start)
            length = growth.length(200)
            self.assertEqual(growth.ahead(200, 0), counted(rows, ""))
            self.assertEqual(growth.ahead(200, length), growth.counts(200))
            self.assertEqual(growth.elder_of(200, 0), (0, 0))
            last = growth.letter_at(199, growth.length(199) - 1)
            expected = (growth.length(199) - 1, len(growth.rules_told().word(last)) - 1)
            self.assertEqual(growth.elder_of(200, length - 1), expected)
            self.assertEqual(growth.younger(199, 0), 0)
            self.assertEqual(growth.younger(199, growth.length(199)), length)
            self.assertEqual(growth.part(200, length, length), "")
            for place in (-1, length + 1):
                self.no_place(place, growth.ahead, 200, place)
            for place in (-1, length, length + 1):
                self.no_place(place, growth.letter_at, 200, place)
                self.no_place(place, growth.elder_of, 200, place)


class Refused(Case):
    def test_no_round(self):
        growth = Growth(Rules(4, HOUSE), "f")
        for age in FAR_ROUNDS:
            self.assertRaises(NoRound, growth.length, age)
            self.assertRaises(NoRound, growth.counts, age)
            for ask in (growth.ahead, growth.letter_at, growth.elder_of, growth.younger):
                self.assertRaises(NoRound, ask, age, 0)
            self.assertRaises(NoRound, growth.place_of, age, "f", 0)
            self.assertRaises(NoRound, growth.part, age, 0, 0)

    def test_no_round_ahead_of_all_else(self):
        growth = Growth(Rules(4, HOUSE), "f")
        for age in FAR_ROUNDS:
            for place in (-1, 10 ** 199):
                for ask in (growth.ahead, growth.letter_at, growth.elder_of, growth.younger):
                    self.assertRaises(NoRound, ask, age, place)
                self.assertRaises(NoRound, growth.place_of, age, "f", place)
                self.assertRaises(NoRound, growth.place_of, age, "q", place)
                self.assertRaises(NoRound, growth.part, age, place, 0)
                self.assertRaises(NoRound, growth.part, age, 0, place)
            self.assertRaises(NoRound, growth.place_of, age, "", 0)
            self.assertRaises(NoRound, growth.part, age, 0, 401)

    def test_the_first_and_the_last_round(self):
        growth = Growth(Rules(4, HOUSE), "f")
        self.assertEqual(growth.length(0), 1)
        self.assertEqual(growth.length(200), 2 ** 201 - 1)
        self.assertEqual(growth.counts(0), {"f": 1, "l": 0})
        self.assertEqual(growth.letter_at(0, 0), "f")
        self.assertEqual(growth.letter_at(200, 2 ** 201 - 2), "f")
        self.assertEqual(growth.ahead(0, 1), {"f": 1, "l": 0})
        self.assertEqual(growth.part(0, 0, 1), "f")

    def test_elders_begin_in_round_1(self):
        growth = Growth(Rules(4, HOUSE), "ff")
        for place in (0, 1, 2, -1, 10 ** 100):
            self.assertRaises(NoRound, growth.elder_of, 0, place)
        self.assertEqual(growth.elder_of(1, 5), (1, 2))
        self.no_place(6, growth.elder_of, 1, 6)
        self.no_place(7, growth.elder_of, 1, 7)
        self.no_place(-1, growth.elder_of, 1, -1)

    def test_younger_places_end_in_round_199(self):
        growth = Growth(Rules(4, HOUSE), "ff")
        for place in (0, 1, -1, growth.length(200), 10 ** 199):
            self.assertRaises(NoRound, growth.younger, 200, place)
        self.assertEqual(growth.younger(0, 2), 6)
        self.assertEqual(growth.younger(199, growth.length(199)), growth.length(200))
        self.no_place(3, growth.younger, 0, 3)
        self.no_place(-1, growth.younger, 0, -1)
        beyond = growth.length(199) + 1
        self.no_place(beyond, growth.younger, 199, beyond)

    def test_no_letter(self):
        growth = Growth(Rules(4, HOUSE), "f")
        for letter in NO_LETTERS:
            for age in (0, 1, 200):
                for number in (0, 1, -1, 10 ** 199):
                    self.no_letter(letter, growth.place_of, age, letter, number)

    def test_letters_that_do_not_stand_in_the_round(self):
        growth = Growth(Rules(4, SIX), "a")
        self.no_place(0, growth.place_of, 0, "t", 0)
        self.no_place(0, growth.place_of, 200, "s", 0)
        self.no_place(1, growth.place_of, 200, "a", 1)
        self.assertEqual(growth.place_of(200, "a", 0), 0)
        self.assertEqual(growth.place_of(200, "t", 199), 200)
        self.no_place(200, growth.place_of, 200, "t", 200)

    def test_places_of_a_part(self):
        growth = Growth(Rules(4, HOUSE), "f")
        for age, length in ((0, 1), (3, 15), (200, 2 ** 201 - 1)):
            for first in (-1, length + 1, -(10 ** 150), 10 ** 150):
                for second in (-2, 0, length, length + 2, 10 ** 151):
                    self.no_place(first, growth.part, age, first, second)
            for first in (0, length):
                self.no_place(length + 1, growth.part, age, first, length + 1)
                self.no_place(10 ** 199, growth.part, age, first, 10 ** 199)
                self.no_place(first - 1, growth.part, age, first, first - 1)
                self.no_place(-1, growth.part, age, first, -1)
                self.no_place(-(10 ** 199), growth.part, age, first, -(10 ** 199))
                self.assertEqual(growth.part(age, first, first), "")
        self.no_place(4, growth.part, 3, 5, 4)
        self.no_place(0, growth.part, 3, 5, 0)
        self.assertEqual(growth.part(3, 5, 6), "l")

    def test_parts_of_400_and_401(self):
        growth = Growth(Rules(4, TRIPLE), "f")
        for age in (6, 200):
            length = growth.length(age)
            for begin in (0, 7, length - 402, length - 401):
                self.assertEqual(growth.part(age, begin, begin + 400), "f" * 400)
                self.assertRaises(TooLong, growth.part, age, begin, begin + 401)
            self.assertRaises(TooLong, growth.part, age, 0, length)
            self.assertEqual(growth.part(age, length - 400, length), "f" * 400)

    def test_too_long_behind_no_place(self):
        growth = Growth(Rules(4, TRIPLE), "f")
        length = growth.length(200)
        self.no_place(length + 1, growth.part, 200, 0, length + 1)
        self.no_place(-1, growth.part, 200, -1, length)
        self.no_place(length + 1, growth.part, 200, length + 1, 0)
        self.no_place(0, growth.part, 200, length, 0)
        self.assertRaises(TooLong, growth.part, 200, 0, length)


class Kept(Case):
    def test_told_dicts_are_the_askers_own(self):
        growth = Growth(Rules(4, HOUSE), "fl")
        for ask, handed in ((growth.counts, (0,)), (growth.counts, (2,)), (growth.ahead, (0, 0)), (growth.ahead, (2, 8)),
                            (growth.ahead, (0, 1)), (growth.ahead, (1, 3)), (growth.counts, (200,))):
            one = ask(*handed)
            other = ask(*handed)
            self.assertIsNot(one, other)
            kept = dict(one)
            for letter in list(one):
                one[letter] = one[letter] + 7
            one["q"] = 1
            self.assertEqual(other, kept)
            self.assertEqual(ask(*handed), kept)
            other.clear()
            self.assertEqual(ask(*handed), kept)
        self.assertEqual(growth.length(2), 8)
        self.assertEqual(growth.place_of(2, "l", 3), 7)
        self.assertEqual(growth.part(2, 0, 8), "flflflfl")
        self.assertEqual(growth.younger(2, 8), 16)

    def test_single_letters_in_round_0(self):
        growth = Growth(Rules(4, HOUSE), "f")
        told = growth.counts(0)
        told["f"] = 100
        told = growth.ahead(0, 1)
        told["f"] = 100
        self.assertEqual(growth.counts(0), {"f": 1, "l": 0})
        self.assertEqual(growth.counts(3), {"f": 8, "l": 7})
        self.assertEqual(growth.ahead(3, 15), {"f": 8, "l": 7})

    def test_another_order_has_the_same_answers(self):
        for rows, start in ((HOUSE, "lf"), (SIX, "nsa"), (SWAP, "ab"), (EIGHTS, "cafe")):
            rules = Rules(4, rows)
            asked = []
            for age in (0, 1, 2, 50, 199, 200):
                asked.extend(all_asked(Growth(rules, start), age))
            alone = [answer(Growth(rules, start), name, handed) for name, handed in asked]
            for seed in range(2):
                growth = Growth(rules, start)
                order = list(range(len(asked)))
                random.Random(seed).shuffle(order)
                for number in order:
                    self.assertEqual(answer(growth, *asked[number]), alone[number], asked[number])

    def test_the_rules_stay(self):
        rules = Rules(4, SIX)
        growth = Growth(rules, "nsa")
        for name, handed in all_asked(growth, 4):
            answer(growth, name, handed)
        self.assertEqual(rules.rows_told(), SIX)
        self.assertEqual(growth.rules_told().rows_told(), SIX)
        self.assertEqual(growth.start_told(), "nsa")


if __name__ == "__main__":
    unittest.main()
