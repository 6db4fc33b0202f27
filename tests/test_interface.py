"""The interface of DOC.md: names, arguments and files."""

import importlib
import inspect
import unittest

FUNCTIONS = {
    "forms": {
        "lot_error": ["value"],
        "watch": ["turn", "day"],
        "round_of": ["lot"],
        "shares_sum": ["lot"],
    },
}

CLASSES = {
    "errors": {
        "BadLot": ["error"],
        "BadText": ["place"],
        "NoDay": ["given"],
        "NoParts": ["given"],
        "NoTurn": ["given"],
        "NoVersion": ["given"],
        "NoWatch": ["given"],
        "Open": ["day"],
        "Rejected": ["index"],
        "TooLong": ["turn"],
        "TooMany": ["limit"],
    },
}


def module(name):
    return importlib.import_module("daywatches." + name)


class InterfaceTest(unittest.TestCase):
    def check(self, file, name, arguments):
        part = getattr(module(file), name)
        self.assertEqual(part.__module__, "daywatches." + file)
        parameters = list(inspect.signature(part).parameters.values())
        self.assertEqual([parameter.name for parameter in parameters], arguments)
        for parameter in parameters:
            self.assertIs(parameter.kind, inspect.Parameter.POSITIONAL_OR_KEYWORD)
            self.assertIs(parameter.default, inspect.Parameter.empty)
        return part

    def test_functions(self):
        for file, names in FUNCTIONS.items():
            for name, arguments in names.items():
                with self.subTest(file=file, name=name):
                    self.assertTrue(inspect.isfunction(self.check(file, name, arguments)))

    def test_classes(self):
        for file, names in CLASSES.items():
            for name, arguments in names.items():
                with self.subTest(file=file, name=name):
                    self.assertTrue(inspect.isclass(self.check(file, name, arguments)))


if __name__ == "__main__":
    unittest.main()
