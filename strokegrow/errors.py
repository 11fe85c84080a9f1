"""All refusals of the program, each of them right under GrowError."""


class GrowError(ValueError):
    """Any refusal."""


class NoPen(GrowError):
    """A number of ways that no pen has."""


class NoDeed(GrowError):
    """A text that is none of the five deeds."""


class NoRound(GrowError):
    """A number that is no round, or no round that can be asked so."""


class TooLong(GrowError):
    """More letters than are written out."""


class NothingDone(GrowError):
    """Nothing is left to undo."""


class NoRules(GrowError):
    """Rows that make no rules; row is the number that tells where."""

    def __init__(self, row):
        GrowError.__init__(self, f"no rules: row {row}")
        self.row = row


class NoWord(GrowError):
    """A text that is no word of the rules; at is the sign that is refused."""

    def __init__(self, at):
        GrowError.__init__(self, f"no word: sign {at}")
        self.at = at


class NoText(GrowError):
    """A text that does not tell rules; which is its first part that is not well written."""

    def __init__(self, which):
        GrowError.__init__(self, f"no text of rules: part {which}")
        self.which = which


class NoLetter(GrowError):
    """A text that is no letter of the rules; letter is that text."""

    def __init__(self, letter):
        GrowError.__init__(self, f"no letter: {letter!r}")
        self.letter = letter


class NoPlace(GrowError):
    """A number that is no place of the round; place is that number."""

    def __init__(self, place):
        # the number stays out of the words: Python refuses to show one of several thousand figures
        GrowError.__init__(self, "no such place")
        self.place = place


class NoLine(GrowError):
    """A text that is no line of the desk; line is that text."""

    def __init__(self, line):
        GrowError.__init__(self, f"no line: {line!r}")
        self.line = line
