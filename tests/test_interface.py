"""The interface: each name that the document tells, with its arguments as they stand."""

import importlib
import inspect
import unittest

# by modules: each name, or class and method, with its arguments (without self)
NAMES = {
    "errors": (
        ("GrowError", None), ("NoPen", None), ("NoDeed", None), ("NoRound", None), ("TooLong", None), ("NothingDone", None),
        ("NoRules", "row"), ("NoWord", "at"), ("NoText", "which"), ("NoLetter", "letter"), ("NoPlace", "place"),
        ("NoLine", "line"),
    ),
    "pens": (
        ("Pen", None), ("Quarter", None), ("Sixth", None), ("pen_of", "ways"), ("added", "one other"), ("cross", "one other"),
        ("Quarter.ways", ""), ("Quarter.way_of", "number"), ("Quarter.step", "way"), ("Quarter.turned", "spot by"),
        ("Quarter.along", "way spot"), ("Quarter.after", "deed spot way"), ("Sixth.ways", ""), ("Sixth.way_of", "number"),
        ("Sixth.step", "way"), ("Sixth.turned", "spot by"), ("Sixth.along", "way spot"), ("Sixth.after", "deed spot way"),
    ),
    "rules": (
        ("Rules", "ways rows"), ("Rules.pen", ""), ("Rules.letters", ""), ("Rules.rows_told", ""), ("Rules.deed", "letter"),
        ("Rules.word", "letter"), ("Rules.word_of", "text most=8"), ("Rules.turn_of", "word"), ("Rules.keeps_turns", ""),
    ),
    "texts": (("rules_text", "rules"), ("read_rules", "text")),
    "writing": (("tally", "rules word"), ("once", "rules word"), ("written", "rules word age")),
    "growths": (
        ("Growth", "rules start"), ("Growth.rules_told", ""), ("Growth.start_told", ""), ("Growth.length", "age"),
        ("Growth.counts", "age"), ("Growth.ahead", "age place"), ("Growth.letter_at", "age place"),
        ("Growth.place_of", "age letter number"), ("Growth.elder_of", "age place"), ("Growth.younger", "age place"),
        ("Growth.part", "age begin end"),
    ),
    "tracks": (
        ("Track", None), ("still", "pen"), ("track_of", "pen deeds"), ("Track.many", ""), ("Track.turn", ""),
        ("Track.strokes", ""), ("Track.shift", "first=0"), ("Track.reach", "first=0"), ("Track.touch", "first=0"),
        ("Track.area", ""), ("Track.closed", ""), ("Track.joined", "other"), ("Track.told", ""),
    ),
    "stretches": (
        ("Drawing", "growth"), ("Drawing.whole", "age letter"), ("Drawing.stretch", "age begin end"),
        ("Drawing.pen_at", "age place"),
    ),
    "counting": (("rule", "rules"), ("next_row", "rule rows")),
    "elders": (("elders", "rules word"), ("goes", "rules elder offset word")),
    "figures": (
        ("path", "rules word"), ("figure", "rules word"), ("moved", "pen ones turn shift"), ("shared", "pen ones others"),
        ("compared", "pen ones others"),
    ),
    "desk": (("Desk", ""), ("Desk.told", "line")),
}


def found(module, name):
    """What stands under the name in the module."""
    thing = importlib.import_module("strokegrow." + module)
    for part in name.split("."):
        thing = getattr(thing, part)
    return thing


class Names(unittest.TestCase):
    def test_each_name_with_its_arguments(self):
        for module, rows in NAMES.items():
            for name, arguments in rows:
                thing = found(module, name)
                self.assertEqual(thing.__module__.split(".")[0], "strokegrow")
                if arguments is not None:
                    told = [str(one) for one in inspect.signature(thing).parameters.values() if one.name != "self"]
                    self.assertEqual(" ".join(told), arguments, (module, name))

    def test_classes_are_classes(self):
        for module, rows in NAMES.items():
            for name, arguments in rows:
                last = name.split(".")[-1]
                self.assertEqual(inspect.isclass(found(module, name)), last[0].isupper(), (module, name))

    def test_pens_are_made_without_arguments(self):
        self.assertEqual((found("pens", "Quarter")().ways(), found("pens", "Sixth")().ways()), (4, 6))


if __name__ == "__main__":
    unittest.main()
