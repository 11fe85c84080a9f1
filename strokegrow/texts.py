"""The text that tells rules, shown and read."""

from strokegrow.errors import NoText
from strokegrow.pens import DEEDS
from strokegrow.rules import MOST_IN_WORD, Rules, is_small_letter


def tells_ways(part):
    """Whether the part is one figure from 1 to 9."""
    return len(part) == 1 and "1" <= part <= "9"


def is_written_word(text):
    """Whether the text is so many small letters as a row's word may have."""
    return 1 <= len(text) <= MOST_IN_WORD and all([is_small_letter(sign) for sign in text])


def tells_row(part):
    """Whether the part is a well written row, be it of any rules or none."""
    words = part.split(" ")
    return len(words) == 3 and is_small_letter(words[0]) and words[1] in DEEDS and is_written_word(words[2])


def rules_text(rules):
    """The text that tells the rules."""
    rows = [" ".join(row) for row in rules.rows_told()]
    return "; ".join([str(rules.pen().ways())] + rows)


def read_rules(text):
    """The rules that the text tells."""
    parts = text.split("; ")
    if not tells_ways(parts[0]):
        raise NoText(0)
    for which, part in enumerate(parts[1:], start=1):
        if not tells_row(part):
            raise NoText(which)
    return Rules(int(parts[0]), [tuple(part.split(" ")) for part in parts[1:]])
