"""Points 1, 2 and 70 over the whole program."""

import inspect
import itertools
import unittest

from laidink import errors
from laidink.charts import Chart, chart_of
from laidink.colours import colours, last_passes, masks_told, opened_for
from laidink.faults import all_faults, faults_told, faulty, silent_faults
from laidink.fewest import fewest_row
from laidink.films import Film
from laidink.inks import Bleach, Filter, Ink, Opaque, laid, mixed
from laidink.light import Light
from laidink.notation import read_row, write_row
from laidink.orders import must_stay, orders, swaps
from laidink.papers import holds, paper_for
from laidink.plain import joined, levels, needless, plainest, thinned
from laidink.press import Press
from laidink.pulls import confused, fewest_pulls
from laidink.rows import Pass, Row
from laidink.shapes import Shape
from laidink.sheets import Sheet, shapes_told, shares
from laidink.spots import Spot, alike, open_sets, parting
from tests import search

WHITE = Light.white()


def told(value):
    """A value in plain words, so that it can be compared with what it was before."""
    if isinstance(value, (list, tuple)):
        return (type(value).__name__, [told(one) for one in value])
    if isinstance(value, dict):
        return ("dict", sorted((key, told(one)) for key, one in value.items()))
    if isinstance(value, (Ink, Pass, Row)):
        return (type(value).__name__, value.told())
    if isinstance(value, Film):
        return ("film", repr(value.bare), repr(value.inked))
    if isinstance(value, Spot):
        return ("spot", value.opened, repr(value.ground), value.inked)
    if isinstance(value, Chart):
        return ("chart", [(path, told(film)) for path, film in value.leaves()])
    if isinstance(value, Shape):
        return ("shape", value.lines, value.width, value.height)
    if isinstance(value, Sheet):
        states = [value.at(x, y) for y in range(value.height) for x in range(value.width)]
        return ("sheet", value.width, value.height, repr(states))
    if isinstance(value, Press):
        return ("press", told([value.sheet, value.row, value.limit, value.steps, value.undone, value.told()]))
    if inspect.isgenerator(value):
        return ("generator", [told(one) for one in value])
    return repr(value)


def a_row():
    return read_row("on a filter 0\non b bleach 0.1\naround a opaque 2\non b bleach 0.1")


def a_sheet():
    return Sheet(2, 1, WHITE).printed(read_row("on c filter 5"), {"c": Shape("#.")})


def some_shapes():
    return {"b": Shape("#."), "a": Shape(".#"), "c": Shape("#")}


def some_inks():
    return [Opaque(Light(1)), Filter(Light(0), takes="inked"), Opaque(Light(1))]


def a_press():
    press = Press(Sheet(2, 1, WHITE), limit=5)
    press.load("a", Shape("#."))
    press.run(Pass("a", Filter(Light(0))), Pass(None, Filter(Light(1))))
    press.lay(Pass(None, Filter(Light(2))))
    press.undo()
    return press


# For each function, method and operator that takes something: how to call it, and what it is handed.
# What a press or a sheet or a row is asked by a method is handed to the call, too.
CALLS = {
    "Light": (lambda *bands: Light(*bands), lambda: [3, 1, 3]),
    "light operators": (lambda a, b: [a | b, a & b, a - b, a ^ b, ~a, a.within(b), a == b], lambda: [Light(1), Light(2)]),
    "Film": (lambda f, g: [f + g, f(WHITE, False), f.does(1), f == g, f.idle],
             lambda: [Filter(Light(0)).film(), Bleach(Light(1)).film()]),
    "Ink": (lambda off, on: Ink(off, on), lambda: [Light(1), Light(2)]),
    "inks": (lambda a, b: [a.writes(), a.film(), a.told(), a == b, mixed(a, b), laid(a, b)],
             lambda: [Filter(Light(1)), Bleach(Light(1, 2))]),
    "Pass": (lambda one, opened: [one.takes_part(opened), one.film_at(opened)], lambda: [a_row()[0], ["b", "a", "b"]]),
    "Row.of": (lambda passes: Row.of(passes), lambda: [list(a_row())]),
    "Row +": (lambda row, other, one: [row + other, row + one, row == other], lambda: [a_row(), a_row(), a_row()[1]]),
    "Row.without": (lambda row: row.without(2, 0, 2), lambda: [a_row()]),
    "Row.reordered": (lambda row, order: row.reordered(order), lambda: [a_row(), [3, 0, 2, 1]]),
    "Row at a spot": (lambda row, opened, ground: [row.film_at(opened), row.print_at(opened, ground),
                                                   list(row.moments(opened, ground))],
                      lambda: [a_row(), ["b", "z", "b"], Light(2)]),
    "Spot": (lambda opened, ground: Spot(opened, ground, True), lambda: [["b", "a", "b"], Light(1)]),
    "open_sets": (open_sets, lambda: [["b", "a", "b"]]),
    "parting": (lambda first, second: [parting(first, second), alike(first, second)], lambda: [a_row(), Row()]),
    "Chart": (lambda chart, opened: [chart.film_at(opened), list(chart.leaves()), chart.is_plain(), chart.size],
              lambda: [chart_of(a_row()), ["b", "q"]]),
    "chart_of": (chart_of, lambda: [a_row()]),
    "paper_for": (paper_for, lambda: [a_row(), Row()]),
    "holds": (holds, lambda: [a_row(), a_row(), ("alike", chart_of(a_row()))]),
    "levels": (levels, lambda: [a_row(), 0]),
    "plainest": (plainest, lambda: [a_row()]),
    "needless": (needless, lambda: [a_row()]),
    "thinned": (thinned, lambda: [a_row()]),
    "joined": (joined, lambda: [a_row(), 1, 3]),
    "orders": (orders, lambda: [a_row()]),
    "must_stay": (must_stay, lambda: [a_row()]),
    "swaps": (swaps, lambda: [a_row()]),
    "colours": (colours, lambda: [a_row(), Light(4)]),
    "opened_for": (opened_for, lambda: [a_row(), Light(4), Light(2)]),
    "last_passes": (last_passes, lambda: [a_row(), Light(4), Light(2)]),
    "masks_told": (masks_told, lambda: [(a_row(), Light(4), Light(2)), (a_row(), Light(), Light(2))]),
    "confused": (confused, lambda: [a_row(), Light(4), [3, 1, 3, 0]]),
    "fewest_pulls": (fewest_pulls, lambda: [a_row(), Light(4)]),
    "all_faults": (all_faults, lambda: [a_row()]),
    "faulty": (faulty, lambda: [a_row(), ("again", 1)]),
    "silent_faults": (silent_faults, lambda: [a_row()]),
    "faults_told": (faults_told, lambda: [a_row(), Light(4), ["b", "a", "z"], Light(0, 1, 4)]),
    "fewest_row": (fewest_row, lambda: [read_row("on a opaque 1\nall filter 0"), some_inks()]),
    "write_row": (lambda row: [write_row(row), row.told()], lambda: [a_row()]),
    "Shape.of": (lambda lines: Shape.of(lines), lambda: [["#.", ".#"]]),
    "Shape": (lambda a, b: [a & b, a | b, a - b, ~a, a.mirrored(), a.tiled(3, 3), a.area(), a == b, (0, 0) in a],
              lambda: [Shape("#.", ".#"), Shape("##", "..")]),
    "Sheet": (lambda sheet, ground: [sheet.at(0, 0), sheet.mirrored(), sheet == Sheet(2, 1, ground)],
              lambda: [a_sheet(), Light(3)]),
    "Sheet.counts": (lambda sheet: sheet.counts(), lambda: [a_sheet()]),
    "Sheet.printed": (lambda sheet, row, shapes: sheet.printed(row, shapes), lambda: [a_sheet(), a_row(), some_shapes()]),
    "shares": (shares, lambda: [a_row(), some_shapes(), Light(0)]),
    "shapes_told": (lambda row, sheet, shapes: shapes_told(row, sheet, sheet.printed(row, shapes)),
                    lambda: [a_row(), a_sheet(), some_shapes()]),
    "Press": (lambda sheet: Press(sheet), lambda: [a_sheet()]),
    "Press asked": (lambda press: [press.sheet, press.row, press.limit, press.steps, press.undone, press.shape_of("a"),
                                   press.tried(*press.row), press.twin()], lambda: [a_press()]),
    "Press.told": (lambda press: press.told(), lambda: [a_press()]),
}
# Which of them return a list or a dict.
LISTS = ["levels", "needless", "must_stay", "swaps", "last_passes", "silent_faults", "faults_told", "Sheet.counts",
         "shares", "Press.told"]
DICTS = ["masks_told", "shapes_told"]


def spoil(value):
    """Change all that can be changed in a list or dict."""
    if isinstance(value, dict):
        for key in value:
            value[key] = None
        value["more"] = None
        return
    for one in value:
        if isinstance(one, list):
            spoil(one)
    value.reverse()
    value.append(None)


class Arguments(unittest.TestCase):
    """Point 2."""

    def test_no_call_changes_what_it_is_handed(self):
        for name, (call, handed) in CALLS.items():
            passed = handed()
            result = told(call(*passed))
            self.assertEqual(told(passed), told(handed()), name)
            self.assertEqual(told(call(*passed)), result, name)

    def test_the_same_with_tuples_in_place_of_lists(self):
        for name, (call, handed) in CALLS.items():
            passed = [tuple(one) if isinstance(one, list) else one for one in handed()]
            self.assertEqual(told(call(*passed)), told(call(*handed())), name)

    def test_lists_and_dicts_that_are_returned_are_new(self):
        for name in LISTS + DICTS:
            call, handed = CALLS[name]
            passed = handed()
            result = call(*passed)
            self.assertIs(type(result), dict if name in DICTS else list, name)
            kept = told(result)
            spoil(result)
            self.assertNotEqual(told(result), kept, name)
            self.assertEqual(told(call(*passed)), kept, name)
            self.assertEqual(told(passed), told(handed()), name)

    def test_objects_keep_copies(self):
        passes, names, lines = list(a_row()), ["b", "a"], ["#.", ".#"]
        row, spot, shape = Row.of(passes), Spot(names, Light(), False), Shape.of(lines)
        kept = told([row, spot, shape])
        for one in [passes, names, lines]:
            one.reverse()
            one.pop()
        self.assertEqual(told([row, spot, shape]), kept)
        shapes = some_shapes()
        sheet = a_sheet().printed(a_row(), shapes)
        kept = told(sheet)
        shapes.clear()
        self.assertEqual(told(sheet), kept)

    def test_the_order_of_keys_means_nothing(self):
        row = a_row() + read_row("around c opaque 3")
        shapes = {"a": Shape("#.", ".."), "b": Shape(".#", "##"), "c": Shape("##", ".#"), "d": Shape("#")}
        printed, shared = [], []
        for names in itertools.permutations(shapes):
            ordered = {name: shapes[name] for name in names}
            printed.append(told(Sheet(2, 2, Light(4)).printed(row, ordered)))
            shared.append(told(shares(row, ordered, Light(4))))
            with self.assertRaises(errors.UnknownMask) as caught:
                shares(row + read_row("on z filter 0\non e filter 0"), ordered, Light(4))
            self.assertEqual(caught.exception.mask, "e")
        self.assertEqual(printed, printed[:1] * 24)
        self.assertEqual(shared, shared[:1] * 24)

    def test_a_press_is_all_that_changes(self):
        press = a_press()
        sheet, row, twin = press.sheet, press.row, press.twin()
        kept = told([sheet, row, twin])
        press.redo()
        press.lay(Pass("a", Opaque(Light(3))))
        press.load("a", Shape(".."))
        press.limit = 50
        self.assertEqual(told([sheet, row, twin]), kept)
        self.assertNotEqual(told(press), told(twin))


class Alike(unittest.TestCase):
    """Point 1."""

    def test_charts_papers_and_sheets_agree(self):
        plans = search.some_plans(151, 14, 3, ["a", "b"], bands=1)
        answers = []
        for first, second in itertools.combinations([search.row_of(plan) for plan in plans], 2):
            spot = parting(first, second)
            answers.append(spot is None)
            self.assertIs(chart_of(first) == chart_of(second), spot is None)
            self.assertEqual(paper_for(first, second)[0], "alike" if spot is None else "parted")
            if spot is not None:
                sheet = Sheet(1, 1, spot.ground, inked=spot.inked)
                shapes = {name: Shape.blank(1, 1, opened=name in spot.opened) for name in ["a", "b"]}
                self.assertNotEqual(sheet.printed(first, shapes), sheet.printed(second, shapes))
        self.assertGreater(min(answers.count(True), answers.count(False)), 3)


# For each class of error a call that raises it, what the call is handed, and the worths of the attributes.
RAISING = {
    "InvalidBand": (lambda *bands: Light(*bands), lambda: [0, 6, 7], [6]),
    "InvalidInk": (lambda off, on: Ink(off, on), lambda: [Light(1, 3, 4), Light(3, 4)], [3]),
    "InvalidTakes": (lambda *inks: mixed(*inks), lambda: [Filter(Light(0)), Bleach(Light(1), takes="bare")], ["bare"]),
    "InvalidPass": (lambda press, shape: press.load("A", shape), lambda: [a_press(), Shape("#")], ["A"]),
    "NoSuchPass": (confused, lambda: [a_row(), Light(0), [1, 0, 9, -1]], [9]),
    "NotAnOrder": (lambda row, order: row.reordered(order), lambda: [a_row(), [0, 2, 1, 0]], []),
    "TooLong": (lambda row, inks: fewest_row(row, inks, most=4), lambda: [a_row(), some_inks()], [4]),
    "TooManyMasks": (lambda names: list(open_sets(names)), lambda: [list("ihgfedcbaa")], [9]),
    "Conditional": (levels, lambda: [a_row() + read_row("on a filter 0 bare"), 9], [4]),
    "CannotCome": (masks_told, lambda: [(a_row(), Light(4), Light(2)), (a_row(), Light(), Light(5))], [1]),
    "InvalidShape": (lambda lines: Shape.of(lines), lambda: [["#.", "#"]], [1]),
    "WrongSize": (lambda sheet, row, shapes: sheet.printed(row, shapes),
                  lambda: [a_sheet(), a_row() + read_row("on c filter 0"), some_shapes()], ["c"]),
    "UnknownMask": (shares, lambda: [read_row("on d filter 0"), some_shapes(), Light(0)], ["d"]),
    "UnknownPlace": (lambda sheet: sheet.at(0, 1), lambda: [a_sheet()], [0, 1]),
    "InvalidText": (read_row, lambda: ["all filter 0\nall filter 0 "], [2]),
    "NothingToUndo": (lambda press: press.undo(), lambda: [Press(a_sheet())], []),
    "NothingToRedo": (lambda press: press.redo(), lambda: [Press(a_sheet())], []),
    "InvalidLimit": (lambda press: press.change_limit(1), lambda: [a_press()], [1]),
    "InvalidRun": (lambda press, row: press.run(*row), lambda: [a_press(), a_row()], [1]),
}


class Raising(unittest.TestCase):
    """Point 70."""

    def test_there_is_a_call_for_each_error(self):
        kinds = [name for name, kind in vars(errors).items() if inspect.isclass(kind)]
        self.assertEqual(sorted([*RAISING, "PrintError"]), sorted(kinds))

    def test_each_error_and_what_is_left(self):
        for name, (call, handed, worths) in RAISING.items():
            passed = handed()
            for _ in range(2):
                with self.assertRaises(errors.PrintError) as caught:
                    call(*passed)
                self.assertIs(type(caught.exception), getattr(errors, name), name)
                self.assertIsInstance(caught.exception, ValueError)
                self.assertEqual(list(vars(caught.exception).values()), worths, name)
                self.assertEqual(told(passed), told(handed()), name)


if __name__ == "__main__":
    unittest.main()
