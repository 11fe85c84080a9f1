"""Rules: which deed each letter is, and to which word it grows."""

from strokegrow.errors import NoLetter, NoRules, NoWord
from strokegrow.pens import DEEDS, pen_of, turn_of_deed

MOST_ROWS = 6
MOST_IN_WORD = 8


def is_small_letter(text):
    """Whether the text is one small letter."""
    return len(text) == 1 and "a" <= text <= "z"


def is_word_over(word, letters):
    """Whether the word of a row has no fault, where these are the rows' letters."""
    return 1 <= len(word) <= MOST_IN_WORD and all([sign in letters for sign in word])


def check_rows(rows):
    """Refuses rows that make no rules."""
    if len(rows) == 0:
        raise NoRules(0)
    if len(rows) > MOST_ROWS:
        raise NoRules(MOST_ROWS)
    firsts = [row[0] for row in rows]
    letters = [first for first in firsts if is_small_letter(first)]
    for number, row in enumerate(rows):
        letter_fits = is_small_letter(row[0]) and row[0] not in firsts[:number]
        if not (letter_fits and row[1] in DEEDS and is_word_over(row[2], letters)):
            raise NoRules(number)


class Rules:
    """A pen, and for each letter its deed and its word."""

    def __init__(self, ways, rows):
        drawer = pen_of(ways)
        check_rows(rows)
        self.drawer = drawer
        # the order of the keys is the rows' order
        self.row_by_letter = {}
        for row in rows:
            self.row_by_letter[row[0]] = tuple(row)

    def pen(self):
        """The pen of these ways."""
        return self.drawer

    def letters(self):
        """The letters, in the rows' order."""
        return "".join(list(self.row_by_letter))

    def rows_told(self):
        """The rows, in a new list."""
        return list(self.row_by_letter.values())

    def row_of(self, letter):
        """The row of a letter; what is no letter is refused."""
        if letter not in self.row_by_letter:
            raise NoLetter(letter)
        return self.row_by_letter[letter]

    def deed(self, letter):
        """The deed of a letter."""
        return self.row_of(letter)[1]

    def word(self, letter):
        """The word that a letter grows to."""
        return self.row_of(letter)[2]

    def word_of(self, text, most=8):
        """The text itself, where it is a word of at most so many letters."""
        if text == "":
            raise NoWord(0)
        for at, sign in enumerate(text):
            if at >= most or sign not in self.row_by_letter:
                raise NoWord(at)
        return text

    def turn_of(self, word):
        """How much the deeds of the word turn the way, by its rest."""
        return self.drawer.way_of(sum([turn_of_deed(self.deed(letter)) for letter in word]))

    def keeps_turns(self):
        """Whether each letter's word has the turn of the letter itself."""
        return all([self.turn_of(self.word(letter)) == self.turn_of(letter) for letter in self.letters()])
