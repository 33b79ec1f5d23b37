"""The interface: what stands in which file, under which names and with which arguments."""

import importlib
import inspect
import unittest

FUNCTIONS = {
    "division": {"gcd": "f, g", "lcm": "f, g", "divides": "g, f"},
    "solving": {"solve": "f, y, digits=None"},
    "telling": {"formula": "watcher, other", "is_formula": "watcher, other, thing", "twins": "watcher, other"},
    "views": {"case_of": "watcher, view", "broken": "watcher, view", "worked": "watcher, view, other"},
    "lacking": {"lacks": "watcher, other", "missing": "watcher, other"},
    "hiding": {"leak": "watcher, other"},
    "strands": {
        "strand": "x, n, r", "strands": "x, n", "woven": "parts", "strand_table": "f, n", "strand_world": "world, n",
        "strand_watcher": "watcher, n, places",
    },
    "texts": {
        "write_filter": "f", "read_filter": "prime, text", "write_circle": "circle", "read_circle": "text",
    },
}
CLASSES = {
    ("filters", "Filter"): {
        "__init__": "prime, terms=()", "shift": "prime, offset", "terms": "", "low": "", "high": "", "span": "",
        "normal": "", "__call__": "x",
    },
    ("sequences", "Sequence"): {
        "__init__": "rule, digits", "zero": "prime", "repeated": "prime, word", "rule": "", "digits": "start, count",
        "moved": "k",
    },
    ("tables", "Table"): {
        "__init__": "prime, width, rows=()", "rows": "", "factors": "row", "least": "", "rank": "", "rest": "row",
        "checks": "", "__call__": "sequences", "__len__": "", "__iter__": "",
    },
    ("worlds", "World"): {
        "__init__": "prime, width, rules=()", "rules": "", "is_case": "thing", "zeros": "", "everything": "",
        "nothing": "",
    },
    ("worlds", "Watcher"): {
        "__init__": "world, rows=()", "rows": "", "base": "", "is_silent": "", "__call__": "case", "__len__": "",
        "__iter__": "",
    },
    ("circles", "Circle"): {
        "__init__": "world, watchers=()", "names": "", "group": "*names", "knowing": "other", "blind": "other",
        "needless": "", "fewest": "", "__len__": "", "__iter__": "",
    },
    ("houses", "House"): {
        "__init__": "world", "put": "name, watcher", "leave": "name", "hand": "giver, taker", "undo": "", "deeds": "",
        "wish": "name, who, other, word", "met": "name", "wishes": "", "tried": "work",
    },
    ("lacking", "Missing"): {"rows": "", "spots": "", "case": "shown, digits", "worked": "view, shown, digits"},
}
PROPERTIES = {("lacking", "Missing"): "counts"}
OPERATORS = {
    ("filters", "Filter"): "getitem bool add sub neg mul rmul pow floordiv mod eq",
    ("sequences", "Sequence"): "getitem bool add sub neg mul rmul eq",
    ("tables", "Table"): "contains add mul and le eq",
    ("worlds", "World"): "eq",
    ("worlds", "Watcher"): "contains add and le lt eq",
    ("circles", "Circle"): "contains getitem",
    ("houses", "House"): "setitem",
}
CLASS_METHODS = ("shift", "zero", "repeated")


def module(name):
    return importlib.import_module(f"seenrows.{name}")


def parameters(thing, without_self):
    told = list(inspect.signature(thing).parameters.values())[1 if without_self else 0:]
    return ", ".join(str(one) for one in told)


class Interface(unittest.TestCase):
    def test_functions(self):
        for file, functions in FUNCTIONS.items():
            for name, told in functions.items():
                function = getattr(module(file), name)
                self.assertEqual((function.__module__, function.__name__), (f"seenrows.{file}", name))
                self.assertEqual(parameters(function, False), told)

    def test_classes_define_their_methods_themselves(self):
        for (file, name), methods in CLASSES.items():
            own = getattr(module(file), name)
            self.assertEqual((own.__module__, own.__name__), (f"seenrows.{file}", name))
            for method, told in methods.items():
                self.assertIn(method, vars(own), name)
                is_class_method = isinstance(vars(own)[method], classmethod)
                self.assertIs(is_class_method, method in CLASS_METHODS, (name, method))
                self.assertEqual(parameters(getattr(own, method), not is_class_method), told, (name, method))

    def test_properties(self):
        for (file, name), told in PROPERTIES.items():
            self.assertIs(type(vars(getattr(module(file), name))[told]), property)

    def test_a_house_is_a_circle(self):
        self.assertEqual(module("houses").House.__bases__, (module("circles").Circle,))

    def test_operators(self):
        for (file, name), operators in OPERATORS.items():
            for operator in operators.split():
                self.assertIn(f"__{operator}__", vars(getattr(module(file), name)), name)


if __name__ == "__main__":
    unittest.main()
