"""Points 63 to 69, and points 2 and 70 for the press."""

import itertools
import random
import unittest

from laidink.errors import (InvalidLimit, InvalidPass, InvalidRun, NothingToRedo, NothingToUndo, PrintError, TooLong,
                            TooManyMasks, UnknownMask, WrongSize)
from laidink.inks import Bleach, Filter, Ink, Opaque
from laidink.light import Light
from laidink.notation import read_row
from laidink.press import PRESS_LIMIT, Press
from laidink.rows import Pass, Row
from laidink.shapes import Shape
from laidink.sheets import Sheet
from tests import search
from tests.search import NAMES

HUGE = 10 ** 999
WRONG_LIMITS = [-HUGE, -100, -1, 0, 101, 102, 1000, HUGE]
STRANGE = ["", "A", "sky1", "seventh", "a b", "\u00e9", "all masks", " a"]
WHITE = Light.white()


def some_shape(dice, width=3, height=2):
    return Shape(*["".join(dice.choice("#.") for _ in range(width)) for _ in range(height)])


def passes_of(text):
    return read_row(text).passes


def told_of(press, names=NAMES):
    """All that a press shows of itself."""
    shapes = {}
    for name in [*names, *STRANGE]:
        try:
            shapes[name] = press.shape_of(name).lines
        except UnknownMask:
            shapes[name] = None
    sheet = press.sheet
    states = [sheet.at(x, y) for y in range(sheet.height) for x in range(sheet.width)]
    return (repr(states), press.row.told(), press.limit, press.steps, press.undone, press.told(), shapes)


def past_and_future(press):
    """What a press shows, after each undo, and after each redo of what was undone before."""
    found = []
    for many, move in [(press.undone, press.redo), (press.steps + press.undone, press.undo)]:
        for _ in range(many):
            move()
            found.append(told_of(press))
    return found


class Case(unittest.TestCase):
    def refused(self, kind, call, *worths):
        """Check that the call is refused with this error, whose attribute has this worth."""
        with self.assertRaises(PrintError) as caught:
            call()
        self.assertIs(type(caught.exception), kind)
        self.assertEqual(tuple(vars(caught.exception).values()), worths)
        return caught.exception

    def refused_unchanged(self, press, kind, call, *worths):
        """The same, and check that the press shows what it showed before."""
        before = told_of(press)
        error = self.refused(kind, call, *worths)
        self.assertEqual(told_of(press), before)
        return error

    def assign(self, press, value):
        press.limit = value


class Examples(Case):
    def test_undo_and_redo(self):
        press = Press(Sheet(2, 1, Light.white()), limit=5)
        press.load("sky", Shape("#."))
        press.run(Pass("sky", Filter(Light(0))), Pass(None, Filter(Light(1))))
        press.undo()
        press.redo()
        found = [press.steps, press.undone, len(press.row), press.told(), str(press.sheet.at(0, 0)[0])]
        lines = ["  1 sky           filter 0", "  2 all           filter 1"]
        self.assertEqual(found, [1, 0, 2, lines, "2.3.4.5"])

    def test_a_run_that_is_refused(self):
        press = Press(Sheet(2, 1, Light.white()))
        run = (Pass(None, Filter(Light(1))), Pass("sky", Filter(Light(0))))
        self.refused(InvalidRun, lambda: press.run(*run), 1)


class Limits(Case):
    """Point 63."""

    def test_a_new_press(self):
        sheet = Sheet(3, 2, Light(2), inked=True)
        press = Press(sheet)
        self.assertEqual(PRESS_LIMIT, 30)
        self.assertEqual((press.sheet, press.row, press.limit), (sheet, Row(), 30))
        self.assertEqual((press.steps, press.undone, press.told()), (0, 0, []))
        for name in [*NAMES, *STRANGE]:
            self.refused(UnknownMask, lambda: press.shape_of(name), name)

    def test_limits_from_1_to_100(self):
        press = Press(Sheet(1, 1, WHITE))
        for value in [1, 2, 30, 99, 100]:
            self.assertEqual(Press(Sheet(1, 1, WHITE), limit=value).limit, value)
            self.assertIsNone(press.change_limit(value))
            self.assertEqual(press.limit, value)
            press.limit = 101 - value
            self.assertEqual(press.limit, 101 - value)
        self.assertEqual((press.steps, press.undone), (0, 0))

    def test_wrong_limits(self):
        press = Press(Sheet(1, 1, WHITE), limit=7)
        for value in WRONG_LIMITS:
            self.refused(InvalidLimit, lambda: Press(Sheet(1, 1, WHITE), limit=value), value)
            self.refused_unchanged(press, InvalidLimit, lambda: press.change_limit(value), value)
            self.refused_unchanged(press, InvalidLimit, lambda: self.assign(press, value), value)

    def test_limits_below_the_passes_that_stand(self):
        press = Press(Sheet(1, 1, WHITE), limit=10)
        press.run(*passes_of("all filter 0\nall filter 1\nall filter 2"))
        press.lay(*passes_of("all bleach 0"))
        for value in [1, 2, 3]:
            self.refused_unchanged(press, InvalidLimit, lambda: press.change_limit(value), value)
            self.refused_unchanged(press, InvalidLimit, lambda: self.assign(press, value), value)
        for value in [4, 5, 100, 4]:
            press.limit = value
            self.assertEqual(press.limit, value)
        press.undo()
        self.refused(InvalidLimit, lambda: press.change_limit(2), 2)
        press.change_limit(3)
        self.assertEqual((press.limit, press.steps, press.undone), (3, 1, 1))

    def test_a_limit_cannot_be_undone(self):
        press = Press(Sheet(1, 1, WHITE))
        press.lay(*passes_of("all filter 0"))
        press.limit = 5
        press.undo()
        self.assertEqual(press.limit, 5)
        press.change_limit(9)
        press.redo()
        self.assertEqual((press.limit, press.steps, press.undone), (9, 1, 0))


class Loading(Case):
    """Point 64."""

    def test_load_unload_and_shape_of(self):
        press = Press(Sheet(3, 2, WHITE))
        dice = random.Random(141)
        for name in ["a", "z", "sky", "masked"]:
            for shape in [some_shape(dice), some_shape(dice)]:
                self.assertIsNone(press.load(name, shape))
                self.assertIs(type(press.shape_of(name)), Shape)
                self.assertEqual(press.shape_of(name), shape)
            self.assertIsNone(press.unload(name))
            self.refused(UnknownMask, lambda: press.shape_of(name), name)
            self.refused(UnknownMask, lambda: press.unload(name), name)
        self.assertEqual((press.steps, press.undone, press.row), (0, 0, Row()))

    def test_names_that_are_none(self):
        press = Press(Sheet(3, 2, WHITE))
        for name in STRANGE:
            self.refused_unchanged(press, InvalidPass, lambda: press.load(name, Shape.blank(3, 2)), name)
            self.refused_unchanged(press, InvalidPass, lambda: press.load(name, Shape("#")), name)
            self.refused_unchanged(press, UnknownMask, lambda: press.unload(name), name)
            self.refused_unchanged(press, UnknownMask, lambda: press.shape_of(name), name)

    def test_shapes_of_other_sizes(self):
        press = Press(Sheet(3, 2, WHITE))
        press.load("b", Shape("#..", ".#."))
        for size in [(2, 3), (3, 3), (3, 1), (2, 2), (4, 2), (6, 1)]:
            for name in ["a", "b"]:
                self.refused_unchanged(press, WrongSize, lambda: press.load(name, Shape.blank(*size)), name)

    def test_nothing_printed_changes(self):
        press = Press(Sheet(2, 1, Light(0)))
        press.load("a", Shape("#."))
        press.lay(*passes_of("on a filter 0"))
        kept = told_of(press, [])
        press.load("a", Shape(".#"))
        self.assertEqual(told_of(press, []), kept)
        press.unload("a")
        self.assertEqual(told_of(press, []), kept)
        press.undo()
        self.refused(UnknownMask, lambda: press.shape_of("a"), "a")
        press.load("a", Shape("##"))
        press.redo()
        self.assertEqual(told_of(press, []), kept)
        self.assertEqual(press.shape_of("a"), Shape("##"))

    def test_loading_forgets_no_undone_step(self):
        press = Press(Sheet(2, 1, Light(0)))
        press.lay(*passes_of("all filter 0"))
        press.undo()
        press.load("a", Shape("#."))
        press.unload("a")
        press.limit = 3
        self.assertEqual(press.undone, 1)
        press.redo()
        self.assertEqual(press.steps, 1)


class Laying(Case):
    """Point 65."""

    def test_through_the_shapes_as_they_are_loaded_now(self):
        press = Press(Sheet(3, 1, Light(0, 1)))
        press.load("a", Shape("##."))
        self.assertIsNone(press.lay(Pass("a", Filter(Light(0)))))
        press.load("a", Shape(".##"))
        press.lay(Pass("a", Filter(Light(1)), around=True))
        press.unload("a")
        press.lay(Pass(None, Bleach(Light(5), takes="bare")))
        found = [search.state_told(press.sheet.at(x, 0)) for x in range(3)]
        self.assertEqual(found, [(0, True), (2, True), (35, True)])
        self.assertEqual(press.row.told(), "on a filter 0\naround a filter 1\nall bleach 5 bare")
        self.assertEqual((press.steps, press.undone), (3, 0))
        self.assertIs(type(press.row), Row)
        self.assertIs(type(press.sheet), Sheet)

    def test_the_sheet_that_was_handed_in_stays_as_it_is(self):
        sheet = Sheet(2, 1, Light(0))
        press = Press(sheet)
        press.lay(Pass(None, Filter(Light(0))))
        earlier = press.sheet
        press.lay(Pass(None, Bleach(Light(0))))
        self.assertEqual(sheet, Sheet(2, 1, Light(0)))
        self.assertEqual(earlier, Sheet(2, 1, Light(), inked=True))
        self.assertEqual(press.sheet, Sheet(2, 1, Light(0), inked=True))

    def test_unknown_masks_come_first(self):
        press = Press(Sheet(1, 1, WHITE), limit=8)
        for name in NAMES[:8]:
            press.load(name, Shape("#"))
            press.lay(Pass(name, Filter(Light(0))))
        self.refused_unchanged(press, UnknownMask, lambda: press.lay(Pass("i", Filter(Light(0)))), "i")
        self.refused_unchanged(press, TooLong, lambda: press.lay(Pass("a", Filter(Light(0)))), 9)
        press.load("i", Shape("#"))
        self.refused_unchanged(press, TooLong, lambda: press.lay(Pass("i", Filter(Light(0)))), 9)
        press.limit = 9
        self.refused_unchanged(press, TooManyMasks, lambda: press.lay(Pass("i", Filter(Light(0)))), 9)
        press.unload("a")
        self.refused_unchanged(press, UnknownMask, lambda: press.lay(Pass("a", Filter(Light(0)))), "a")
        press.lay(Pass("b", Filter(Light(0))))
        self.refused_unchanged(press, TooLong, lambda: press.lay(Pass(None, Filter(Light(0)))), 10)
        self.refused_unchanged(press, TooLong, lambda: press.lay(Pass("i", Filter(Light(0)))), 10)
        press.undo()
        press.undo()
        press.lay(Pass("i", Filter(Light(0))))
        self.assertEqual(press.row.masks, tuple(NAMES[:7] + ["i"]))

    def test_the_greatest_limit(self):
        press = Press(Sheet(2, 1, WHITE), limit=100)
        for at in range(100):
            press.lay(Pass(None, Filter(Light(at % 6))))
        self.refused_unchanged(press, TooLong, lambda: press.lay(Pass(None, Filter(Light(0)))), 101)
        self.assertEqual((len(press.row), press.steps), (100, 100))
        self.refused(InvalidLimit, lambda: press.change_limit(99), 99)

    def test_the_usual_limit(self):
        press = Press(Sheet(1, 1, WHITE))
        for _ in range(30):
            press.lay(Pass(None, Filter(Light(0))))
        self.refused(TooLong, lambda: press.lay(Pass(None, Filter(Light(0)))), 31)


class Running(Case):
    """Point 66."""

    def test_one_step(self):
        press = Press(Sheet(2, 1, Light(0, 1)))
        press.load("a", Shape("#."))
        self.assertIsNone(press.run(*passes_of("on a filter 0\naround a filter 1\nall bleach 2")))
        self.assertEqual((press.steps, press.undone, len(press.row)), (1, 0, 3))
        self.assertEqual([press.sheet.at(x, 0)[0] for x in range(2)], [Light(1, 2), Light(0, 2)])
        press.undo()
        self.assertEqual((press.steps, press.undone, press.row), (0, 1, Row()))

    def test_a_run_prints_like_its_passes_alone(self):
        dice = random.Random(142)
        for plan in search.some_plans(142, 30, 8, NAMES[:3]):
            one, other = Press(Sheet(3, 2, Light(1, 3))), Press(Sheet(3, 2, Light(1, 3)))
            for name in NAMES[:3]:
                shape = some_shape(dice)
                one.load(name, shape)
                other.load(name, shape)
            passes = search.row_of(plan).passes
            self.assertEqual(one.tried(*passes).counts(), one.sheet.printed(Row(*passes), {
                name: one.shape_of(name) for name in NAMES[:3]}).counts())
            one.run(*passes)
            for single in passes:
                other.lay(single)
            self.assertEqual((one.sheet, one.row), (other.sheet, other.row))
            self.assertEqual((one.steps, other.steps), (min(1, len(plan)), len(plan)))

    def test_without_passes(self):
        press = Press(Sheet(2, 1, Light(0)))
        press.lay(*passes_of("all filter 0"))
        press.lay(*passes_of("all bleach 1"))
        press.undo()
        before = told_of(press)
        self.assertIsNone(press.run())
        self.assertEqual(press.tried(), press.sheet)
        self.assertEqual(told_of(press), before)
        self.assertEqual(press.undone, 1)
        full = Press(Sheet(2, 1, Light(0)), limit=1)
        full.lay(*passes_of("all filter 0"))
        self.assertIsNone(full.run())
        self.assertEqual(full.tried(), Sheet(2, 1, Light(), inked=True))

    def test_refused_at_each_index(self):
        press = Press(Sheet(2, 1, Light(0)), limit=12)
        press.load("a", Shape("#."))
        press.lay(*passes_of("on a filter 0"))
        press.lay(*passes_of("on a bleach 0"))
        press.undo()
        right, wrong = Pass("a", Filter(Light(1))), Pass("b", Filter(Light(1)))
        for at, behind in itertools.product(range(5), [[], [right], [wrong, right]]):
            run = [right] * at + [wrong] + behind
            for call in [press.run, press.tried]:
                error = self.refused_unchanged(press, InvalidRun, lambda: call(*run), at)
                self.assertIs(type(error.__cause__), UnknownMask)
                self.assertEqual(error.__cause__.mask, "b")

    def test_refused_for_too_many_passes(self):
        press = Press(Sheet(2, 1, Light(0)), limit=5)
        press.run(*passes_of("all filter 0\nall filter 1"))
        one = Pass(None, Filter(Light(2)))
        for many in [4, 5, 60, 250]:
            for call in [press.run, press.tried]:
                error = self.refused_unchanged(press, InvalidRun, lambda: call(*[one] * many), 3)
                self.assertIs(type(error.__cause__), TooLong)
                self.assertEqual(error.__cause__.many, 6)
        press.run(one, one, one)
        for call in [press.run, press.tried]:
            self.refused_unchanged(press, InvalidRun, lambda: call(one), 0)

    def test_refused_for_too_many_masks(self):
        press = Press(Sheet(1, 1, Light(0)))
        passes = [Pass(name, Filter(Light(0))) for name in NAMES]
        for name in NAMES:
            press.load(name, Shape("#"))
        for start in range(8):
            for call in [press.run, press.tried]:
                error = self.refused_unchanged(press, InvalidRun, lambda: call(*passes[start:]), 8 - start)
                self.assertIs(type(error.__cause__), TooManyMasks)
                self.assertEqual(error.__cause__.many, 9)
            press.lay(passes[start])
        press.unload("j")
        error = self.refused_unchanged(press, InvalidRun, lambda: press.run(passes[0], passes[9]), 1)
        self.assertIs(type(error.__cause__), UnknownMask)

    def test_tried_changes_nothing(self):
        press = Press(Sheet(2, 1, Light(0)))
        press.load("a", Shape("#."))
        press.lay(*passes_of("on a filter 0"))
        press.lay(*passes_of("all bleach 4"))
        press.undo()
        before = told_of(press)
        found = press.tried(*passes_of("around a bleach 1\nall bleach 2"))
        self.assertIs(type(found), Sheet)
        self.assertEqual([search.state_told(found.at(x, 0)) for x in range(2)], [(4, True), (7, True)])
        self.assertEqual(told_of(press), before)
        press.redo()
        self.assertEqual(press.undone, 0)


class Undoing(Case):
    """Point 67."""

    def test_nothing_to_undo_or_redo(self):
        press = Press(Sheet(1, 1, WHITE))
        self.refused_unchanged(press, NothingToUndo, press.undo)
        self.refused_unchanged(press, NothingToRedo, press.redo)
        press.lay(*passes_of("all filter 0"))
        self.refused_unchanged(press, NothingToRedo, press.redo)
        self.assertIsNone(press.undo())
        self.refused_unchanged(press, NothingToUndo, press.undo)
        self.assertIsNone(press.redo())
        self.refused_unchanged(press, NothingToRedo, press.redo)

    def test_steps_of_several_passes(self):
        press = Press(Sheet(3, 2, Light(0, 1, 2)))
        dice = random.Random(143)
        views = [told_of(press, [])]
        for many in [1, 3, 2, 1, 4]:
            press.load("a", some_shape(dice))
            press.load("b", some_shape(dice))
            press.run(*search.row_of(search.some_plan(dice, many, ["a", "b"])))
            views.append(told_of(press, []))
        for many in [5, 3, 1]:
            for at in range(many):
                press.undo()
                self.assertEqual(told_of(press, [])[:2], views[4 - at][:2])
                self.assertEqual((press.steps, press.undone), (4 - at, at + 1))
                press.load("a", some_shape(dice))
                press.limit = dice.randrange(11, 100)
            for at in range(many):
                press.redo()
                self.assertEqual(told_of(press, [])[:2], views[6 - many + at][:2])
                self.assertEqual((press.steps, press.undone), (6 - many + at, many - 1 - at))
                press.load("b", some_shape(dice))
            press.limit = 30
            self.assertEqual(told_of(press, []), views[5])

    def test_under_other_shapes_and_without_them(self):
        press = Press(Sheet(2, 1, Light(0)))
        press.load("a", Shape("#."))
        press.lay(*passes_of("on a filter 0"))
        sheet = press.sheet
        press.undo()
        self.assertEqual(press.sheet, Sheet(2, 1, Light(0)))
        press.unload("a")
        press.redo()
        self.assertEqual((press.sheet, press.row.told()), (sheet, "on a filter 0"))

    def test_no_limit_counts(self):
        press = Press(Sheet(2, 1, Light(0)))
        press.run(*passes_of("all filter 0\nall bleach 1\nall bleach 2"))
        press.lay(*passes_of("all bleach 3"))
        press.undo()
        press.undo()
        press.limit = 1
        press.redo()
        press.redo()
        self.assertEqual((len(press.row), press.limit, press.steps), (4, 1, 2))
        self.refused_unchanged(press, TooLong, lambda: press.lay(*passes_of("all filter 0")), 5)
        error = self.refused_unchanged(press, InvalidRun, lambda: press.run(*passes_of("all filter 0")), 0)
        self.assertEqual(error.__cause__.many, 5)
        for value in [1, 2, 3]:
            self.refused_unchanged(press, InvalidLimit, lambda: press.change_limit(value), value)
        self.assertEqual(press.twin().limit, 1)
        press.limit = 4
        press.undo()
        press.lay(*passes_of("all filter 0"))
        self.assertEqual((len(press.row), press.limit), (4, 4))

    def test_a_new_step_makes_undone_steps_be_forgotten(self):
        for step in [lambda press: press.lay(*passes_of("all filter 2")),
                     lambda press: press.run(*passes_of("all filter 2\nall filter 3"))]:
            press = Press(Sheet(2, 1, WHITE))
            press.lay(*passes_of("all filter 0"))
            press.lay(*passes_of("all filter 1"))
            press.undo()
            step(press)
            self.assertEqual((press.steps, press.undone), (2, 0))
            self.refused_unchanged(press, NothingToRedo, press.redo)
            press.undo()
            self.assertEqual(press.row.told(), "all filter 0")
            press.redo()
            self.assertIn("all filter 2", press.row.told())

    def test_a_refused_step_forgets_nothing(self):
        press = Press(Sheet(2, 1, WHITE), limit=2)
        press.lay(*passes_of("all filter 0"))
        press.lay(*passes_of("all filter 1"))
        press.undo()
        self.refused_unchanged(press, UnknownMask, lambda: press.lay(*passes_of("on a filter 0")), "a")
        self.refused_unchanged(press, InvalidRun, lambda: press.run(*passes_of("all filter 0\nall filter 0")), 1)
        self.refused_unchanged(press, InvalidRun, lambda: press.tried(*passes_of("all filter 0\nall filter 0")), 1)
        press.undo()
        press.limit = 1
        self.assertEqual(press.undone, 2)
        press.redo()
        self.refused_unchanged(press, TooLong, lambda: press.lay(*passes_of("all filter 0")), 2)
        press.redo()
        self.assertEqual(press.row.told(), "all filter 0\nall filter 1")


class Twins(Case):
    """Point 68."""

    def some_press(self):
        press = Press(Sheet(2, 1, Light(0)), limit=9)
        press.load("a", Shape("#."))
        press.load("b", Shape("##"))
        press.run(*passes_of("on a filter 0\naround a bleach 1"))
        press.lay(*passes_of("on b bleach 2"))
        press.lay(*passes_of("all bleach 3"))
        press.undo()
        return press

    def test_the_same_state(self):
        press = self.some_press()
        twin = press.twin()
        self.assertIs(type(twin), Press)
        self.assertIsNot(twin, press)
        self.assertEqual(told_of(twin), told_of(press))
        self.assertEqual(past_and_future(twin), past_and_future(press))

    def test_later_changes(self):
        changes = [
            lambda press: press.lay(*passes_of("on a opaque 5")),
            lambda press: press.run(*passes_of("all filter 2\non b filter 1")),
            lambda press: press.undo(),
            lambda press: press.redo(),
            lambda press: press.load("a", Shape(".#")),
            lambda press: press.load("c", Shape("..")),
            lambda press: press.unload("b"),
            lambda press: press.change_limit(4),
            lambda press: [press.undo(), press.undo(), press.lay(*passes_of("all filter 4"))],
        ]
        for change in changes:
            for turned in [False, True]:
                press, other = self.some_press(), self.some_press()
                twin = press.twin()
                one, kept = (twin, press) if turned else (press, twin)
                change(one)
                self.assertNotEqual(told_of(one), told_of(other))
                self.assertEqual(told_of(kept), told_of(other))
                self.assertEqual(past_and_future(kept), past_and_future(other))

    def test_twins_of_twins(self):
        press = self.some_press()
        first = press.twin()
        second = first.twin()
        first.undo()
        self.assertEqual([len(one.row) for one in [press, first, second]], [3, 2, 3])
        new = Press(Sheet(1, 1, WHITE)).twin()
        self.assertEqual((new.steps, new.undone, new.limit), (0, 0, 30))


class Lines(Case):
    """Point 69."""

    def test_lines_by_hand(self):
        press = Press(Sheet(1, 1, WHITE))
        for name in ["a", "ab", "abc", "abcd", "abcde", "abcdef"]:
            press.load(name, Shape("#"))
        press.lay(Pass("a", Filter(Light(0))))
        press.lay(Pass("abcdef", Opaque(Light(1, 2), takes="bare"), around=True))
        press.lay(Pass(None, Bleach(Light(), takes="inked")))
        press.lay(Pass("abcdef", Ink(Light(0), Light(5))))
        press.lay(Pass("ab", Ink(Light(), Light(), takes="inked"), around=True))
        self.assertEqual(press.told(), [
            "  1 a             filter 0",
            "  2 abcdef around opaque 1.2 bare",
            "  3 all           bleach - inked",
            "  4 abcdef        ink 0 5",
            "  5 ab     around ink - - inked",
        ])
        self.assertIs(type(press.told()), list)

    def test_columns(self):
        press = Press(Sheet(1, 1, WHITE), limit=100)
        wanted = []
        for at in range(100):
            name = [None, "a", "ab", "abc", "abcd", "abcde", "abcdef", "all"][at % 8]
            around = name is not None and at % 3 == 0
            ink = Filter(Light(at % 6))
            if name is not None:
                press.load(name, Shape("#"))
            press.lay(Pass(name, ink, around=around))
            number = " " * (3 - len(str(at + 1))) + str(at + 1)
            mask = "all" if name is None else name
            side = "around" if around else "      "
            wanted.append(number + " " + mask + " " * (6 - len(mask)) + " " + side + " " + ink.told())
            if at + 1 in [1, 9, 10, 11, 99, 100]:
                self.assertEqual(press.told(), wanted)
        self.assertEqual([press.told()[at][:4] for at in [0, 9, 99]], ["  1 ", " 10 ", "100 "])

    def test_only_the_passes_that_stand(self):
        press = Press(Sheet(1, 1, WHITE))
        self.assertEqual(press.told(), [])
        press.run(*passes_of("all filter 0\nall filter 1"))
        press.lay(*passes_of("all filter 2"))
        press.undo()
        self.assertEqual(press.told(), ["  1 all           filter 0", "  2 all           filter 1"])
        press.undo()
        self.assertEqual(press.told(), [])

    def test_the_list_may_be_changed(self):
        press = Press(Sheet(1, 1, WHITE))
        press.lay(*passes_of("all filter 0"))
        press.told().clear()
        self.assertEqual(press.told(), ["  1 all           filter 0"])


class Model:
    """A press by the words of the document: all that stood is kept step by step."""

    def __init__(self, width, height, ground, limit):
        self.places = [(ground, False)] * (width * height)
        self.plan, self.limit, self.shapes, self.past, self.future = [], limit, {}, [], []

    def refusal(self, plan, one):
        if one.mask is not None and one.mask not in self.shapes:
            return UnknownMask
        if len(plan) + 1 > self.limit:
            return TooLong
        return TooManyMasks if len(search.masks_of(plan, [one])) > 8 else None

    def refused_at(self, plan):
        for at, one in enumerate(plan):
            refusal = self.refusal(self.plan + plan[:at], one)
            if refusal is not None:
                return (at, refusal)
        return None

    def printed(self, plan):
        opened = [[name for name, cells in self.shapes.items() if cells[at] == "#"] for at in range(len(self.places))]
        return [search.after(plan, names, *state) for names, state in zip(opened, self.places)]

    def step(self, plan):
        self.past.append((self.places, self.plan))
        self.places, self.plan, self.future = self.printed(plan), self.plan + plan, []

    def move(self, here, there):
        there.append((self.places, self.plan))
        self.places, self.plan = here.pop()


class AgainstAModel(Case):
    """Points 63 to 67: long lives of presses."""

    def states(self, sheet):
        return [search.state_told(sheet.at(x, y)) for y in range(sheet.height) for x in range(sheet.width)]

    def check_same(self, press, model):
        self.assertEqual(self.states(press.sheet), model.places)
        self.assertEqual(press.row.told(), search.row_of(model.plan).told())
        self.assertEqual((press.limit, press.steps, press.undone), (model.limit, len(model.past), len(model.future)))

    def shapes_moved(self, dice, press, model):
        name = dice.choice(NAMES)
        if dice.random() < 0.8:
            shape = some_shape(dice)
            press.load(name, shape)
            model.shapes[name] = "".join(shape.lines)
        elif name in model.shapes:
            press.unload(name)
            del model.shapes[name]
        else:
            self.refused(UnknownMask, lambda: press.unload(name), name)

    def limit_changed(self, dice, press, model):
        value = dice.randrange(-1, 16)
        if value < 1 or value < len(model.plan):
            self.refused(InvalidLimit, lambda: press.change_limit(value), value)
        else:
            press.limit = value
            model.limit = value

    def printed(self, dice, press, model):
        plan = search.some_plan(dice, dice.choice([0, 1, 1, 1, 2, 3]), list(model.shapes) + NAMES[:1])
        passes = search.row_of(plan).passes
        refused = model.refused_at(plan)
        if len(plan) == 1 and dice.random() < 0.7:
            if refused is None:
                press.lay(*passes)
            else:
                with self.assertRaises(refused[1]):
                    press.lay(*passes)
        elif refused is None:
            self.assertEqual(self.states(press.tried(*passes)), model.printed(plan))
            press.run(*passes)
        else:
            for call in [press.tried, press.run]:
                error = self.refused(InvalidRun, lambda: call(*passes), refused[0])
                self.assertIs(type(error.__cause__), refused[1])
        if plan and refused is None:
            model.step(plan)
        return refused[1] if refused else None

    def moved(self, press, model, back):
        here, there = (model.past, model.future) if back else (model.future, model.past)
        move, kind = (press.undo, NothingToUndo) if back else (press.redo, NothingToRedo)
        if here:
            move()
            model.move(here, there)
        else:
            self.refused(kind, move)

    def test_long_lives(self):
        dice = random.Random(144)
        refusals = []
        for _ in range(12):
            press, model = Press(Sheet(3, 2, Light(0, 4)), limit=12), Model(3, 2, 17, 12)
            for _ in range(150):
                what = dice.choice(["shape", "limit", "print", "print", "print", "undo", "redo"])
                if what == "shape":
                    self.shapes_moved(dice, press, model)
                elif what == "limit":
                    self.limit_changed(dice, press, model)
                elif what == "print":
                    refusals.append(self.printed(dice, press, model))
                else:
                    self.moved(press, model, what == "undo")
                self.check_same(press, model)
                if dice.random() < 0.1:
                    press = press.twin()
        self.assertTrue(all(refusals.count(kind) > 5 for kind in [None, UnknownMask, TooLong]))
        self.assertGreater(refusals.count(TooManyMasks), 0)


if __name__ == "__main__":
    unittest.main()
