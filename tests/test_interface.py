"""The interface: what exists under which name, where, and with which arguments."""

import importlib
import inspect
import unittest

# For each function of a module its signature; generators are marked below.
FUNCTIONS = {
    "inks": {"mixed": "(*inks)", "laid": "(*inks)"},
    "notation": {"read_row": "(text)", "write_row": "(row)"},
    "spots": {
        "open_sets": "(masks)",
        "parting": "(first, second, *, ground=None, inked=None)",
        "alike": "(first, second, *, ground=None, inked=None)",
    },
    "charts": {"chart_of": "(row)"},
    "papers": {"paper_for": "(first, second)", "holds": "(first, second, paper)"},
    "plain": {
        "levels": "(row, band)",
        "plainest": "(row)",
        "needless": "(row, *, ground=None, inked=None)",
        "thinned": "(row)",
        "joined": "(row, first, second)",
    },
    "orders": {"orders": "(row)", "must_stay": "(row)", "swaps": "(row)"},
    "colours": {
        "colours": "(row, ground, *, inked=False)",
        "opened_for": "(row, ground, wanted, *, inked=False)",
        "last_passes": "(row, ground, seen, *, inked=False)",
        "masks_told": "(*prints, inked=False)",
    },
    "pulls": {
        "confused": "(row, ground, moments, *, inked=False)",
        "fewest_pulls": "(row, ground, *, inked=False)",
    },
    "faults": {
        "all_faults": "(row)",
        "faulty": "(row, fault)",
        "silent_faults": "(row)",
        "faults_told": "(row, ground, opened, seen, *, inked=False)",
    },
    "fewest": {"fewest_row": "(row, inks, *, most=3)"},
    "sheets": {
        "shares": "(row, screens, ground, *, inked=False)",
        "shapes_told": "(row, before, after)",
    },
}
# For each class of a module its signature, if callers make it, and what stands in its own body.
CLASSES = {
    "inks": {
        "Ink": ("(off, on, *, takes='any')", ["TAKES", "writes", "film", "told", "__eq__"]),
        "Filter": ("(light, *, takes='any')", ["told"]),
        "Opaque": ("(light, *, takes='any')", ["told"]),
        "Bleach": ("(light, *, takes='any')", ["told"]),
    },
    "rows": {
        "Pass": (
            "(mask, ink, *, around=False)",
            ["takes_part", "film_at", "told", "__eq__"],
        ),
        "Row": (
            "(*passes)",
            ["LIMIT", "MASKS", "of", "without", "reordered", "film_at", "print_at", "moments",
             "told", "__add__", "__eq__", "__len__", "__getitem__", "__iter__"],
        ),
    },
    "spots": {"Spot": ("(opened, ground, inked)", ["__eq__"])},
    "charts": {
        "Chart": (None, ["end", "fork", "size", "film_at", "leaves", "is_plain", "__eq__"]),
    },
    "shapes": {
        "Shape": (
            "(*lines)",
            ["of", "blank", "mirrored", "tiled", "area", "__and__", "__or__", "__sub__", "__invert__", "__contains__",
             "__eq__"],
        ),
    },
    "sheets": {
        "Sheet": (
            "(width, height, ground, *, inked=False)",
            ["at", "printed", "mirrored", "counts", "__eq__"],
        ),
    },
    "press": {
        "Press": (
            "(sheet, *, limit=30)",
            ["sheet", "row", "limit", "steps", "undone", "change_limit", "load", "unload", "shape_of", "lay", "run",
             "tried", "undo", "redo", "twin", "told"],
        ),
    },
}
METHODS = {
    ("inks", "Ink"): {"writes": "(self)", "film": "(self)", "told": "(self)"},
    ("rows", "Pass"): {
        "takes_part": "(self, opened)", "film_at": "(self, opened)", "told": "(self)",
    },
    ("rows", "Row"): {
        "of": "(passes)", "without": "(self, *numbers)", "reordered": "(self, order)",
        "film_at": "(self, opened)", "print_at": "(self, opened, ground, *, inked=False)",
        "moments": "(self, opened, ground, *, inked=False)", "told": "(self)",
    },
    ("charts", "Chart"): {
        "end": "(film)", "fork": "(mask, when_shut, when_open)", "film_at": "(self, opened)",
        "leaves": "(self)", "is_plain": "(self)",
    },
    ("shapes", "Shape"): {
        "of": "(lines)", "blank": "(width, height, *, opened=False)", "mirrored": "(self)",
        "tiled": "(self, width, height)", "area": "(self)",
    },
    ("sheets", "Sheet"): {
        "at": "(self, x, y)", "printed": "(self, row, shapes)", "mirrored": "(self)", "counts": "(self)",
    },
    ("press", "Press"): {
        "change_limit": "(self, value)", "load": "(self, mask, shape)", "unload": "(self, mask)",
        "shape_of": "(self, mask)", "lay": "(self, one)", "run": "(self, *passes)", "tried": "(self, *passes)",
        "undo": "(self)", "redo": "(self)", "twin": "(self)", "told": "(self)",
    },
}
GENERATORS = [
    ("spots", "open_sets"), ("rows", "Row.moments"), ("charts", "Chart.leaves"), ("orders", "orders"),
    ("colours", "colours"), ("faults", "all_faults"),
]
# The whole numbers that stand in the interface.
NUMBERS = {("orders", "ORDER_LIMIT"): 6, ("pulls", "PULL_LIMIT"): 8, ("press", "PRESS_LIMIT"): 30}


def found(module, path):
    thing = importlib.import_module("laidink." + module)
    for name in path.split("."):
        thing = getattr(thing, name)
    return thing


class Interface(unittest.TestCase):
    def test_functions(self):
        for module, listed in FUNCTIONS.items():
            for name, signature in listed.items():
                one = found(module, name)
                self.assertTrue(inspect.isfunction(one), name)
                self.assertEqual(one.__module__, "laidink." + module)
                self.assertEqual(str(inspect.signature(one)), signature, name)

    def test_numbers(self):
        for (module, name), worth in NUMBERS.items():
            one = found(module, name)
            self.assertIs(type(one), int)
            self.assertEqual(one, worth, name)

    def test_classes(self):
        for module, listed in CLASSES.items():
            for name, (signature, parts) in listed.items():
                one = found(module, name)
                self.assertTrue(inspect.isclass(one), name)
                self.assertEqual(one.__module__, "laidink." + module)
                if signature is not None:
                    self.assertEqual(str(inspect.signature(one)), signature, name)
                for part in [*parts, "__init__"]:
                    self.assertIn(part, vars(one), name)

    def test_methods(self):
        for (module, owner), listed in METHODS.items():
            for name, signature in listed.items():
                one = found(module, f"{owner}.{name}")
                self.assertEqual(str(inspect.signature(one)), signature, name)

    def test_static_methods_and_properties(self):
        parts = vars(found("charts", "Chart"))
        self.assertEqual([type(parts[name]) for name in ["end", "fork"]], [staticmethod] * 2)
        self.assertIs(type(parts["size"]), property)
        self.assertIs(type(vars(found("rows", "Row"))["of"]), classmethod)
        shape = vars(found("shapes", "Shape"))
        self.assertEqual([type(shape[name]) for name in ["of", "blank"]], [classmethod] * 2)
        press = vars(found("press", "Press"))
        for name in ["sheet", "row", "limit", "steps", "undone"]:
            self.assertIs(type(press[name]), property)
            self.assertIs(press[name].fset is not None, name == "limit")

    def test_generators_and_no_others(self):
        generators = [found(module, path) for module, path in GENERATORS]
        for one in generators:
            self.assertTrue(inspect.isgeneratorfunction(one), one)
        plain = [found(module, name) for module, listed in FUNCTIONS.items() for name in listed]
        for (module, owner), listed in METHODS.items():
            plain += [found(module, f"{owner}.{name}") for name in listed]
        for one in plain:
            self.assertEqual(inspect.isgeneratorfunction(one), one in generators, one)


if __name__ == "__main__":
    unittest.main()
