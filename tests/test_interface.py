"""The names, parameters and kinds of methods of the interface, file by file."""

import importlib
import inspect
import unittest

FUNCTIONS = {
    "losses": [
        "loss(beam, i, begin, j, end)", "least_route(beam, i, begin, j, end)",
        "route_sum(beam, i, begin, j, end, value)"],
}

CLASSES = {
    "heads.Head": {
        "methods": [
            "__init__(self, name, left, right, kinds, speed, changes=())", "__eq__(self, other)", "__repr__(self)",
            "speed_at(self, step)", "does(self, kind)", "with_speed(self, speed, *changes)", "mirrored(self)",
            "backward(self)", "later(self, ticks)", "wider(self, more)", "scaled(self, *, parts=1, speed=1)"],
        "properties": ["name", "left", "right", "kinds", "speed", "changes"],
        "values": {"MOST_KINDS": 4, "MOST_CHANGES": 3}},
    "beams.Beam": {
        "methods": [
            "__init__(self, left, right, *heads)", "__eq__(self, other)", "__repr__(self)", "__len__(self)",
            "__contains__(self, name)", "head(self, number)", "number_of(self, name)", "distance(self, i, j)",
            "range_of(self, number)", "are_right(self, places)", "speed_at(self, number, step)",
            "packed(self, *, to_right=False)", "with_head(self, head)", "mirrored(self)", "backward(self)",
            "later(self, ticks)", "moved(self, places)", "wider(self, more)", "scaled(self, *, parts=1, speed=1)"],
        "properties": ["left", "right", "room", "heads"],
        "values": {"MOST_HEADS": 5}},
}


def written(name, function):
    return name + str(inspect.signature(function))


class TestInterface(unittest.TestCase):

    def test_functions(self):
        for file, functions in FUNCTIONS.items():
            module = importlib.import_module(f"beamheads.{file}")
            for text in functions:
                function = getattr(module, text.partition("(")[0])
                self.assertEqual(written(function.__name__, function), text)
                self.assertEqual(function.__module__, f"beamheads.{file}")

    def test_classes(self):
        for name, parts in CLASSES.items():
            file, _, name = name.partition(".")
            own = importlib.import_module(f"beamheads.{file}")
            found = vars(getattr(own, name))
            self.assertEqual(found["__module__"], f"beamheads.{file}")
            for text in parts["methods"]:
                method = text.partition("(")[0]
                self.assertTrue(inspect.isfunction(found[method]), text)
                self.assertEqual(written(method, found[method]), text)
            for text in parts.get("class methods", []):
                method = text.partition("(")[0]
                self.assertIsInstance(found[method], classmethod)
                self.assertEqual(written(method, found[method].__func__), text)
            for text in parts.get("static methods", []):
                method = text.partition("(")[0]
                self.assertIsInstance(found[method], staticmethod)
                self.assertEqual(written(method, found[method].__func__), text)
            for attribute in parts["properties"]:
                self.assertIsInstance(found[attribute], property)
            for value, wanted in parts["values"].items():
                self.assertEqual(repr(found[value]), repr(wanted))


if __name__ == "__main__":
    unittest.main()
