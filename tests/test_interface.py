"""The interface of DOC.md: names, arguments and files."""

import importlib
import inspect
import unittest

FUNCTIONS = {
    "forms": {
        "lot_error": ["value"],
        "watch": ["turn", "day"],
        "round_of": ["lot"],
        "shares_sum": ["lot"],
    },
    "texts": {
        "lot_text": ["lot"],
        "parse_lot": ["value"],
    },
    "days": {
        "holders": ["lot", "day"],
        "tally": ["lot", "day"],
        "meeting": ["lot", "some"],
        "next_held": ["lot", "day"],
        "next_open": ["lot", "day"],
        "held_at": ["lot", "day", "count"],
        "open_at": ["lot", "day", "count"],
        "counts": ["lot", "begin", "end"],
        "day_shares": ["lot"],
    },
    "sums": {
        "sums": ["lot"],
        "sums_by": ["lot", "weights"],
        "few_days": ["lot"],
        "weights_error": ["lot", "value"],
    },
    "covers": {
        "is_held": ["lot", "least"],
        "open_day": ["lot", "least"],
        "least_tally": ["lot"],
        "greatest_tally": ["lot"],
        "longest_held": ["lot"],
        "within": ["one", "other"],
        "day_out": ["one", "other"],
        "same_days": ["one", "other"],
    },
    "splits": {
        "split_paper": ["lot"],
        "paper_holds": ["lot", "value"],
        "paper_size": ["value"],
    },
    "exacts": {
        "meet": ["lot", "index", "other_index"],
        "meeting_pair": ["lot"],
        "is_exact": ["lot"],
        "greatest_turn": ["lot"],
        "split": ["lot", "index", "parts"],
        "is_grown": ["lot"],
        "grown_by": ["lot"],
        "chosen_shares": ["lot", "index", "rest"],
    },
    "leasts": {
        "needless": ["lot"],
        "lone_day": ["lot", "index"],
        "trimmed": ["lot"],
        "trimmed_lot": ["lot"],
        "least_rests": ["lot"],
        "least_breaches": ["lot"],
        "fewest_rest": ["lot"],
    },
    "alikes": {
        "fractions_of": ["lot"],
        "alike": ["one", "other"],
        "parting_day": ["one", "other"],
        "told_back": ["tallies"],
        "merged": ["lot"],
        "is_merged": ["lot"],
    },
    "seeks": {
        "closing": ["lot", "turns"],
        "firsts_close": ["lot", "turns", "value"],
        "exact_firsts": ["turns"],
        "least_closing": ["lot", "turns"],
    },
    "changes": {
        "shifted": ["lot", "day"],
        "mirrored": ["lot"],
        "stretched": ["lot", "times"],
        "seen": ["lot", "size", "rest"],
        "together": ["one", "other"],
        "crossed": ["one", "other"],
        "is_little": ["lot"],
    },
}

CLASSES = {
    "boards": {
        "Board": ["lot"],
        "HeldBoard": ["lot"],
    },
    "shells": {
        "Shell": ["board"],
    },
    "errors": {
        "BadLot": ["error"],
        "BadText": ["place"],
        "NoDay": ["given"],
        "NoParts": ["given"],
        "NoTurn": ["given"],
        "NoVersion": ["given"],
        "NoWatch": ["given"],
        "Open": ["day"],
        "Rejected": ["index"],
        "TooLong": ["turn"],
        "TooMany": ["limit"],
    },
}

METHODS = {
    ("boards", "Board"): {
        "add": ["turn", "day"],
        "drop": ["index"],
        "move": ["index", "day"],
        "split": ["index", "parts"],
        "undo": [],
        "at": ["version"],
        "copy": [],
        "attempt": ["batch", "on_step"],
    },
    ("shells", "Shell"): {
        "say": ["line"],
    },
}

SIGNS = ["__getitem__", "__len__", "__contains__", "__iter__", "__bool__", "__str__", "__eq__"]

PROPERTIES = {
    ("boards", "Board"): ["lot", "version"],
    ("shells", "Shell"): ["board", "history"],
}


def module(name):
    return importlib.import_module("daywatches." + name)


class InterfaceTest(unittest.TestCase):
    def check(self, file, name, arguments):
        part = getattr(module(file), name)
        self.assertEqual(part.__module__, "daywatches." + file)
        parameters = list(inspect.signature(part).parameters.values())
        self.assertEqual([parameter.name for parameter in parameters], arguments)
        for parameter in parameters:
            self.assertIs(parameter.kind, inspect.Parameter.POSITIONAL_OR_KEYWORD)
            self.assertIs(parameter.default, inspect.Parameter.empty)
        return part

    def test_functions(self):
        for file, names in FUNCTIONS.items():
            for name, arguments in names.items():
                with self.subTest(file=file, name=name):
                    self.assertTrue(inspect.isfunction(self.check(file, name, arguments)))

    def test_classes(self):
        for file, names in CLASSES.items():
            for name, arguments in names.items():
                with self.subTest(file=file, name=name):
                    self.assertTrue(inspect.isclass(self.check(file, name, arguments)))

    def test_methods_stand_in_their_classes(self):
        for (file, name), methods in METHODS.items():
            for method, arguments in methods.items():
                with self.subTest(file=file, name=name, method=method):
                    own = vars(getattr(module(file), name))[method]
                    self.assertTrue(inspect.isfunction(own))
                    parameters = list(inspect.signature(own).parameters.values())
                    self.assertEqual([parameter.name for parameter in parameters], ["self"] + arguments)
                    for parameter in parameters:
                        self.assertIs(parameter.kind, inspect.Parameter.POSITIONAL_OR_KEYWORD)
                        self.assertIs(parameter.default, inspect.Parameter.empty)

    def test_signs_of_boards(self):
        for sign in SIGNS:
            self.assertTrue(inspect.isfunction(vars(module("boards").Board)[sign]))

    def test_properties_can_only_be_read(self):
        for (file, name), properties in PROPERTIES.items():
            for told in properties:
                own = vars(getattr(module(file), name))[told]
                self.assertIsInstance(own, property)
                self.assertIsNone(own.fset)
                self.assertIsNone(own.fdel)


if __name__ == "__main__":
    unittest.main()
