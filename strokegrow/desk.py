"""A desk: rules and a start word that are changed and asked about by lines of text."""

from strokegrow.elders import elders
from strokegrow.errors import NoLine, NothingDone
from strokegrow.growths import Growth
from strokegrow.rules import is_small_letter
from strokegrow.stretches import Drawing
from strokegrow.texts import read_rules, rules_text

FIRST_RULES = "4; f stroke f"
FIRST_START = "f"
FIGURES = "0123456789"
MOST_FIGURES = 200
RULES_BEGIN = "rules "
DONE = "ready"
# by the first word of a line: of which kind each further one is; the line rules has a form of its own
FORMS = {
    "start": ("word",),
    "undo": (),
    "show": (),
    "length": ("number",),
    "letter": ("number", "number"),
    "place": ("number", "letter", "number"),
    "counts": ("number", "number"),
    "pen": ("number", "number"),
    "reach": ("number", "number", "number"),
    "area": ("number", "number", "number"),
    "part": ("number", "number", "number"),
    "elders": ("word",),
}


def is_number(word):
    """Whether the word is a whole number as lines have it."""
    if word == "" or len(word) > MOST_FIGURES:
        return False
    return all([sign in FIGURES for sign in word]) and (word == "0" or word[0] != "0")


def is_of_kind(word, kind):
    """Whether the word is one of that kind."""
    if kind == "number":
        return is_number(word)
    if kind == "letter":
        return is_small_letter(word)
    return word != ""


def is_line(words):
    """Whether these words make a line, the line rules left aside."""
    if words[0] not in FORMS:
        return False
    kinds = FORMS[words[0]]
    return len(words) == len(kinds) + 1 and all([is_of_kind(word, kind) for word, kind in zip(words[1:], kinds)])


def values_of(words):
    """What the words behind the first one stand for."""
    return [int(word) if is_number(word) else word for word in words[1:]]


def numbers_text(numbers):
    """The numbers with one blank between."""
    return " ".join([str(number) for number in numbers])


def counts_text(growth, age, place):
    """The counts ahead of the place, in the letters' order."""
    counts = growth.ahead(age, place)
    return numbers_text([counts[letter] for letter in growth.rules_told().letters()])


def pen_text(drawing, age, place):
    """The spot and the way of the pen at the place."""
    told = drawing.pen_at(age, place)
    return numbers_text([told[0][0], told[0][1], told[1]])


def part_text(growth, age, begin, end):
    """The letters between two places, behind the word part."""
    letters = growth.part(age, begin, end)
    return "part" if letters == "" else f"part {letters}"


def elders_text(rules, word):
    """The beginnings that go to the word's end."""
    told = [f"{letter}{offset}" for letter, offset, far, elder in elders(rules, word) if elder is not None]
    return " ".join(told) if len(told) > 0 else "none"


class Desk:
    """Rules and a start word, and what they were ahead of each change."""

    def __init__(self):
        # rules and start words alone: the tables of a growth take much room, and are soon made again
        self.past = []
        self.set_up(Growth(read_rules(FIRST_RULES), FIRST_START))

    def set_up(self, growth):
        """Makes this the growth that is asked."""
        self.growth = growth
        self.drawing = Drawing(growth)

    def change_to(self, rules, start):
        """Takes other rules or another start word; what is refused is refused ahead of any change."""
        growth = Growth(rules, start)
        self.past.append((self.growth.rules_told(), self.growth.start_told()))
        self.set_up(growth)
        return DONE

    def take_rules(self, text):
        """The line rules: the first letter is the start word."""
        rules = read_rules(text)
        return self.change_to(rules, rules.letters()[0])

    def undo(self):
        """The line undo."""
        if len(self.past) == 0:
            raise NothingDone("nothing is left to undo")
        last = self.past.pop()
        self.set_up(Growth(last[0], last[1]))
        return DONE

    def show(self):
        """The line show."""
        text = rules_text(self.growth.rules_told())
        start = self.growth.start_told()
        return f"{text} / {start}"

    def told_of_growth(self, name, values):
        """The answers to the questions about letters and places."""
        if name == "length":
            return str(self.growth.length(values[0]))
        if name == "letter":
            return self.growth.letter_at(values[0], values[1])
        if name == "place":
            return str(self.growth.place_of(values[0], values[1], values[2]))
        if name == "counts":
            return counts_text(self.growth, values[0], values[1])
        return part_text(self.growth, values[0], values[1], values[2])

    def told_of_drawing(self, name, values):
        """The answers to the questions about the pen."""
        if name == "pen":
            return pen_text(self.drawing, values[0], values[1])
        track = self.drawing.stretch(values[0], values[1], values[2])
        if name == "reach":
            return numbers_text(track.reach())
        return str(track.area())

    def told(self, line):
        """The answer to a line."""
        if line.startswith(RULES_BEGIN):
            return self.take_rules(line[len(RULES_BEGIN):])
        words = line.split(" ")
        if not is_line(words):
            raise NoLine(line)
        name = words[0]
        if name == "start":
            return self.change_to(self.growth.rules_told(), words[1])
        if name == "undo":
            return self.undo()
        if name == "show":
            return self.show()
        if name == "elders":
            return elders_text(self.growth.rules_told(), words[1])
        if name in ("pen", "reach", "area"):
            return self.told_of_drawing(name, values_of(words))
        return self.told_of_growth(name, values_of(words))
