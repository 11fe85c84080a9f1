"""Stretches of grown words: the tracks of words that are not written out."""

from strokegrow.tracks import still, track_of
from strokegrow.writing import LAST_ROUND, check_round


class Drawing:
    """What the pen draws that does the deeds of a growth's letters."""

    def __init__(self, growth):
        self.growth = growth
        rules = growth.rules_told()
        # by rounds, then by letters: the track of each letter grown; as deep as was asked so far
        self.tracks = [dict([(letter, track_of(rules.pen(), [rules.deed(letter)])) for letter in rules.letters()])]

    def join_all(self, tracks):
        """The track of all these, one behind the other."""
        whole = still(self.growth.rules_told().pen())
        for track in tracks:
            whole = whole.joined(track)
        return whole

    def deepen_to(self, age):
        """Makes the table hold the tracks of letters grown by that many rounds."""
        rules = self.growth.rules_told()
        while len(self.tracks) <= age:
            last = self.tracks[-1]
            grown = {}
            for letter in rules.letters():
                grown[letter] = self.join_all([last[younger] for younger in rules.word(letter)])
            self.tracks.append(grown)

    def whole(self, age, letter):
        """The track of the letter grown by so many rounds."""
        check_round(age, 0, LAST_ROUND)
        self.growth.check_letter(letter)
        self.deepen_to(age)
        return self.tracks[age][letter]

    def stretch(self, age, begin, end):
        """The track of the letters between two places of the round."""
        self.growth.check_stretch(age, begin, end)
        self.deepen_to(age)
        return self.join_all([self.tracks[rounds][letter] for rounds, letter in self.growth.pieces(age, begin, end)])

    def pen_at(self, age, place):
        """The spot and the way of the pen behind all deeds of the round ahead of the place."""
        track = self.stretch(age, 0, place)
        return (track.shift(), track.turn())
