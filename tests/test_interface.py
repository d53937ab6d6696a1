"""The interface of DOC.md, and promise 11 as far as names of arguments go."""

import importlib
import inspect
import unittest

FUNCTIONS = {
    "letters": {"is_letter": ["value"], "is_drawing": ["letter", "value"],
                "mixture": ["letter", "masters", "weights"]},
    "forms": {"fault": ["letter", "drawing"], "inside": ["letter", "drawing", "ring", "other"]},
    "turns": {"least_turn": ["letter", "masters", "corner"], "greatest_turn": ["letter", "masters", "corner"],
              "area": ["letter", "masters", "ring"]},
    "shares": {"shares": ["letter", "masters", "corner", "side"]},
    "rooms": {"meetings": ["letter", "masters"], "fallen": ["letter", "masters"], "bent": ["letter", "masters"],
              "is_kept": ["letter", "masters"]},
    "lines": {"spans": ["letter", "one", "other"], "fault_between": ["letter", "one", "other", "spot"]},
    "chains": {"chain": ["letter", "drawings"], "levels": ["letter", "drawings"],
               "levels_hold": ["letter", "drawings", "value"]},
    "texts": {"printed": ["letter", "masters"], "parse": ["text"]},
}
CLASSES = {
    "errors": {"FormError": None, "BadValue": ["self", "at"], "BadText": ["self", "at"], "BadLevels": ["self", "at"],
               "NoMaster": ["self", "name"], "TakenName": ["self", "name"], "TooMany": ["self"]},
    "fonts": {"Font": ["self", "letter"]},
}
METHODS = {"letter": [], "names": [], "drawing": ["name"], "add": ["name", "drawing"], "take": ["name"],
           "move": ["name", "corner", "place"], "is_kept": ["names"], "rooms": [], "copy": [], "__len__": [],
           "__contains__": ["name"], "__eq__": ["other"]}


class InterfaceTest(unittest.TestCase):
    def test_functions(self):
        for file, functions in FUNCTIONS.items():
            module = importlib.import_module("keptform." + file)
            for name, arguments in functions.items():
                with self.subTest(file=file, name=name):
                    function = getattr(module, name)
                    self.assertTrue(inspect.isfunction(function))
                    self.assertEqual(function.__module__, module.__name__)
                    self.assertEqual(list(inspect.signature(function).parameters), arguments)

    def test_classes(self):
        for file, classes in CLASSES.items():
            module = importlib.import_module("keptform." + file)
            for name, arguments in classes.items():
                with self.subTest(file=file, name=name):
                    kind = getattr(module, name)
                    self.assertTrue(inspect.isclass(kind))
                    self.assertEqual(kind.__module__, module.__name__)
                    if arguments is not None:
                        self.assertEqual(list(inspect.signature(kind.__init__).parameters), arguments)

    def test_methods(self):
        kind = importlib.import_module("keptform.fonts").Font
        for name, arguments in METHODS.items():
            with self.subTest(name=name):
                self.assertTrue(inspect.isfunction(vars(kind)[name]))
                self.assertEqual(list(inspect.signature(vars(kind)[name]).parameters), ["self"] + arguments)


if __name__ == "__main__":
    unittest.main()
