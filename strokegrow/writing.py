"""Words that are written out: their letters counted, and the words grown round by round."""

from strokegrow.errors import NoRound, TooLong

MOST_WRITTEN = 400
LAST_ROUND = 200


def check_round(age, first, last):
    """Refuses what is no round from the first to the last."""
    if age < first or age > last:
        raise NoRound("no such round")


def check_written(many):
    """Refuses more letters than are written out."""
    if many > MOST_WRITTEN:
        raise TooLong("too many letters to be written out")


def tally(rules, word):
    """How often each letter of the rules stands in the word."""
    return dict([(letter, word.count(letter)) for letter in rules.letters()])


def once(rules, word):
    """The word grown by one round."""
    grown = "".join([rules.word(letter) for letter in word])
    check_written(len(grown))
    return grown


def written(rules, word, age):
    """The round of that number of the word, written out."""
    grown = rules.word_of(word)
    check_round(age, 0, LAST_ROUND)
    # no round is shorter than the one ahead: where one is too long, the one that is asked for is so too
    for rounds in range(age):
        grown = once(rules, grown)
    return grown
