"""Grown words that are not written out: their lengths, counts, places, elders and parts."""

from strokegrow.errors import NoLetter, NoPlace
from strokegrow.writing import LAST_ROUND, check_round, check_written, tally, written


def summed(tallies, letters):
    """The dict in which the counts of all these dicts are added, letter by letter."""
    return dict([(letter, sum([counts[letter] for counts in tallies])) for letter in letters])


def waiting_pieces(word, rounds):
    """The word's letters as pieces of so many rounds, the last one first: so they are popped in their order."""
    return [(rounds, letter) for letter in reversed(word)]


class Growth:
    """A start word and the rules that it grows by.

    A piece is a tuple (rounds, letter): that letter, grown by so many rounds.
    """

    def __init__(self, rules, start):
        self.rules = rules
        self.seed = rules.word_of(start)
        # by rounds, then by letters: the counts and the length of each piece; as deep as was asked so far
        self.tallies = [dict([(letter, tally(rules, letter)) for letter in rules.letters()])]
        self.lengths = [dict([(letter, 1) for letter in rules.letters()])]

    def rules_told(self):
        """The rules."""
        return self.rules

    def start_told(self):
        """The start word."""
        return self.seed

    def deepen_to(self, age):
        """Makes the tables hold the pieces of that many rounds."""
        letters = self.rules.letters()
        while len(self.tallies) <= age:
            last = self.tallies[-1]
            grown = {}
            for letter in letters:
                grown[letter] = summed([last[younger] for younger in self.rules.word(letter)], letters)
            self.tallies.append(grown)
            self.lengths.append(dict([(letter, sum(grown[letter].values())) for letter in letters]))

    def enter(self, age):
        """Refuses what is no round; every question begins with it, ahead of what else is refused."""
        check_round(age, 0, LAST_ROUND)
        self.deepen_to(age)

    def check_place(self, age, place):
        """Refuses what is no place of the round."""
        if place < 0 or place > self.length(age):
            raise NoPlace(place)

    def check_letter_place(self, age, place):
        """Refuses what is no place of the round, and the last one, as no letter stands there."""
        if place < 0 or place >= self.length(age):
            raise NoPlace(place)

    def check_letter(self, letter):
        """Refuses what is no letter of the rules."""
        if letter not in self.lengths[0]:
            raise NoLetter(letter)

    def check_stretch(self, age, begin, end):
        """Refuses what is no round, and two places that have no stretch between them."""
        self.enter(age)
        self.check_place(age, begin)
        if end < begin:
            raise NoPlace(end)
        self.check_place(age, end)

    def length(self, age):
        """How many letters the round has."""
        self.enter(age)
        return sum([self.lengths[age][letter] for letter in self.seed])

    def counts(self, age):
        """How often each letter stands in the round."""
        self.enter(age)
        return summed([self.tallies[age][letter] for letter in self.seed], self.rules.letters())

    def pieces(self, age, begin, end):
        """The pieces that stand between two places of the round, in their order, each as great as can be."""
        between = []
        waiting = waiting_pieces(self.seed, age)
        place = 0
        while place < end:
            piece = waiting.pop()
            rounds = piece[0]
            behind = place + self.lengths[rounds][piece[1]]
            if behind <= begin:
                place = behind
            elif begin <= place and behind <= end:
                between.append(piece)
                place = behind
            else:
                waiting.extend(waiting_pieces(self.rules.word(piece[1]), rounds - 1))
        return between

    def ahead(self, age, place):
        """How often each letter stands at lesser places."""
        self.enter(age)
        self.check_place(age, place)
        passed = self.pieces(age, 0, place)
        return summed([self.tallies[rounds][letter] for rounds, letter in passed], self.rules.letters())

    def letter_at(self, age, place):
        """The letter at the place."""
        self.enter(age)
        self.check_letter_place(age, place)
        return self.part(age, place, place + 1)

    def place_of(self, age, letter, number):
        """The place at which the letter stands and ahead of which it stands so many times."""
        self.enter(age)
        self.check_letter(letter)
        if number < 0 or number >= self.counts(age)[letter]:
            raise NoPlace(number)
        place = 0
        missing = number
        waiting = waiting_pieces(self.seed, age)
        piece = waiting.pop()
        # the letter itself is found where a piece of no rounds holds the number that is still missing
        while piece[0] > 0 or missing > 0 or piece[1] != letter:
            rounds = piece[0]
            held = self.tallies[rounds][piece[1]][letter]
            if missing < held:
                waiting.extend(waiting_pieces(self.rules.word(piece[1]), rounds - 1))
            else:
                missing = missing - held
                place = place + self.lengths[rounds][piece[1]]
            piece = waiting.pop()
        return place

    def elder_of(self, age, place):
        """The place of the letter of the round ahead in whose word this one stands, and its number in that word."""
        check_round(age, 1, LAST_ROUND)
        self.enter(age)
        self.check_letter_place(age, place)
        elder = 0
        offset = 0
        # all elders ahead lie in pieces of one round or more; what is left of no rounds stands in the elder's own word
        for rounds, letter in self.pieces(age, 0, place):
            if rounds == 0:
                offset = offset + 1
            else:
                elder = elder + self.lengths[rounds - 1][letter]
        return (elder, offset)

    def younger(self, age, place):
        """The place of the next round at which the word of the letter at this place begins."""
        check_round(age, 0, LAST_ROUND - 1)
        passed = self.ahead(age, place)
        return sum([passed[letter] * len(self.rules.word(letter)) for letter in passed])

    def part(self, age, begin, end):
        """The letters between two places."""
        self.check_stretch(age, begin, end)
        check_written(end - begin)
        return "".join([written(self.rules, letter, rounds) for rounds, letter in self.pieces(age, begin, end)])
