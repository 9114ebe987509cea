"""Points 58 to 62, and points 2 and 70 for sheets."""

import itertools
import math
import random
import unittest

from laidink.errors import CannotCome, UnknownMask, UnknownPlace, WrongSize
from laidink.inks import Filter
from laidink.light import Light
from laidink.notation import read_row
from laidink.rows import Pass, Row
from laidink.shapes import Shape
from laidink.sheets import Sheet, shapes_told, shares
from tests import search
from tests.search import COLOURS, NAMES, STARTS, step

HUGE = 10 ** 999
SIZES = [(1, 1), (3, 2), (2, 4), (5, 1)]
SIGNS = ["#", ".", "?"]


def light(number):
    return Light.numbered(number)


def some_shape(dice, width, height):
    return Shape(*["".join(dice.choice("#.") for _ in range(width)) for _ in range(height)])


def some_shapes(dice, names, width, height):
    return {name: some_shape(dice, width, height) for name in names}


def states_of(sheet):
    """All states of a sheet line by line, each as a pair of a number and inked."""
    return [[search.state_told(sheet.at(x, y)) for x in range(sheet.width)] for y in range(sheet.height)]


def opened_in(shapes, names, x, y):
    """The masks that are open at a place of shapes that are repeated for ever."""
    return [name for name in names
            if shapes[name].lines[y % shapes[name].height][x % shapes[name].width] == "#"]


def printed_of(states, plan, shapes):
    """The states after the plan, by the words of point 59."""
    names = search.masks_of(plan)
    return [[search.after(plan, opened_in(shapes, names, x, y), *state) for x, state in enumerate(line)]
            for y, line in enumerate(states)]


def counts_of(states):
    """The counts by the words of point 58, with the numbers of the colours."""
    colours = [colour for line in states for colour, _ in line]
    return [(colour, colours.count(colour)) for colour in COLOURS if colour in colours]


def told_of(plan, before, after):
    """The lines of each mask, by the words of point 62, or the first place that cannot come."""
    names = search.masks_of(plan)
    lines = {name: [""] * len(before) for name in names}
    for y, (line, below) in enumerate(zip(before, after)):
        for x, ((ground, inked), (seen, _)) in enumerate(zip(line, below)):
            fits = search.sets_showing(plan, names, ground, seen, inked)
            if not fits:
                return (x, y)
            for name in names:
                lines[name][y] += search.side_told(name, fits, SIGNS)
    return {name: tuple(found) for name, found in lines.items()}


def mixed_sheet(dice, width, height):
    """A sheet with many different states, of which some are bare."""
    plan = [step("a", "ink", [0], [1], takes="any"), step("b", "opaque", [dice.randrange(6)]),
            step("c", "bleach", [3, 4], takes="inked"), step("d", "filter", [1, 3], takes="bare")]
    shapes = some_shapes(dice, NAMES[:4], width, height)
    return Sheet(width, height, light(dice.randrange(64))).printed(search.row_of(plan), shapes)


class Examples(unittest.TestCase):
    def test_counts(self):
        sheet = Sheet(2, 1, Light.white()).printed(read_row("on a opaque 1"), {"a": Shape("#.")})
        self.assertEqual(repr(sheet.counts()), "[(Light(1), 1), (Light(0, 1, 2, 3, 4, 5), 1)]")

    def test_shares(self):
        row = read_row("on a filter 0\non b opaque 1")
        found = repr(shares(row, {"a": Shape("#."), "b": Shape("#..")}, Light(0)))
        self.assertEqual(found, "[(Light(), 2), (Light(0), 2), (Light(1), 2)]")

    def test_shapes_told(self):
        row = read_row("on a filter 0\non b opaque 1")
        before = Sheet(3, 1, Light(0))
        after = before.printed(row, {"a": Shape("##."), "b": Shape("#..")})
        self.assertEqual(shapes_told(row, before, after), {"a": ("?#.",), "b": ("#..",)})


class Sheets(unittest.TestCase):
    """Point 58."""

    def test_new_sheets(self):
        for width, height in [*SIZES, (40, 40), (1, 40), (40, 1)]:
            for inked in STARTS:
                sheet = Sheet(width, height, Light(2, 5), inked=inked)
                self.assertEqual((sheet.width, sheet.height), (width, height))
                self.assertLessEqual({"width", "height"}, set(vars(sheet)))
                self.assertEqual(states_of(sheet), [[(36, inked)] * width] * height)
                self.assertEqual(sheet.counts(), [(Light(2, 5), width * height)])
        self.assertEqual(Sheet(1, 1, Light(0)).at(0, 0), (Light(0), False))

    def test_the_states_of_places(self):
        state = Sheet(2, 2, Light(3), inked=True).at(1, 0)
        self.assertEqual([type(state), type(state[0]), state], [tuple, Light, (Light(3), True)])
        sheet = Sheet(2, 2, Light(3)).printed(read_row("on a filter 3"), {"a": Shape("#.", "..")})
        self.assertEqual(states_of(sheet), [[(0, True), (8, False)], [(8, False), (8, False)]])

    def test_places_outside(self):
        for width, height in [(1, 1), (3, 2), (40, 40)]:
            sheet = Sheet(width, height, Light())
            wrong = [(x, y) for x in [-HUGE, -width, -1, width, width + 1, HUGE] for y in [-1, 0, height - 1, height]]
            wrong += [(x, y) for y in [-HUGE, -height, -1, height, height + 1, HUGE] for x in [-1, 0, width - 1, width]]
            for x, y in wrong:
                with self.assertRaises(UnknownPlace) as caught:
                    sheet.at(x, y)
                self.assertEqual((caught.exception.x, caught.exception.y), (x, y))

    def test_equal(self):
        row = read_row("on a filter 0")
        sheets = [Sheet(2, 1, Light(0)), Sheet(1, 2, Light(0)), Sheet(2, 2, Light(0)), Sheet(2, 1, Light()),
                  Sheet(2, 1, Light(), inked=True), Sheet(4, 1, Light(0)), Sheet(1, 4, Light(0)),
                  Sheet(2, 1, Light(0)).printed(row, {"a": Shape("#.")}),
                  Sheet(2, 1, Light(0)).printed(row, {"a": Shape(".#")})]
        for one, other in itertools.product(range(len(sheets)), repeat=2):
            self.assertIs(sheets[one] == sheets[other], one == other)
            self.assertIs(sheets[one] != sheets[other], one != other)
        self.assertEqual(Sheet(2, 1, Light()), Sheet(2, 1, Light(), inked=False))
        self.assertEqual(Sheet(2, 1, Light(0)).printed(row, {"a": Shape("##")}), sheets[4])
        self.assertEqual(Sheet(2, 1, Light(0)).printed(row, {"a": Shape("..")}), sheets[0])

    def test_not_equal_to_what_is_no_sheet(self):
        sheet = Sheet(2, 1, Light(0))
        for value in [None, (2, 1), [[(Light(0), False)] * 2], Shape("##"), Row(), 1, "sheet", False]:
            self.assertIs(sheet == value, False)
            self.assertIs(value == sheet, False)
            self.assertIs(sheet != value, True)

    def test_counts_in_the_order_of_lights(self):
        dice = random.Random(131)
        for _ in range(15):
            sheet = mixed_sheet(dice, 6, 5)
            found = sheet.counts()
            self.assertEqual([type(found), type(found[0])], [list, tuple])
            self.assertEqual([(colour.number, many) for colour, many in found], counts_of(states_of(sheet)))
        sheet = Sheet(8, 8, Light())
        row, shapes = Row(), {}
        for band in range(6):
            row = row + Pass(NAMES[band], Filter(Light(band)), around=True)
            cells = ["#" if (place >> band) & 1 else "." for place in range(64)]
            shapes[NAMES[band]] = Shape(*["".join(cells[y * 8:y * 8 + 8]) for y in range(8)])
        found = Sheet(8, 8, Light.white()).printed(row, shapes).counts()
        self.assertEqual([(colour.number, many) for colour, many in found], [(number, 1) for number in COLOURS])
        self.assertEqual(sheet.counts(), [(Light(), 64)])

    def test_bare_and_inked_places_of_one_colour_count_together(self):
        sheet = Sheet(2, 1, Light(0)).printed(read_row("on a filter 1"), {"a": Shape("#.")})
        self.assertEqual(sheet.counts(), [(Light(0), 2)])

    def test_the_list_may_be_changed(self):
        sheet = Sheet(2, 1, Light(0))
        sheet.counts().clear()
        self.assertEqual(sheet.counts(), [(Light(0), 2)])


class Printed(unittest.TestCase):
    """Points 59 and 60."""

    def test_against_the_words(self):
        dice = random.Random(132)
        for plan in search.some_plans(132, 40, 8, NAMES[:4]):
            width, height = dice.choice(SIZES)
            sheet = mixed_sheet(dice, width, height)
            shapes = some_shapes(dice, NAMES[:4], width, height)
            states, row = states_of(sheet), search.row_of(plan)
            text, lines = row.told(), {name: shape.lines for name, shape in shapes.items()}
            found = sheet.printed(row, shapes)
            self.assertIs(type(found), Sheet)
            self.assertEqual((found.width, found.height), (width, height))
            self.assertEqual(states_of(found), printed_of(states, plan, shapes))
            self.assertEqual(states_of(sheet), states)
            self.assertEqual((row.told(), {name: shape.lines for name, shape in shapes.items()}), (text, lines))

    def test_masks_that_the_row_has_not(self):
        sheet = Sheet(2, 1, Light(0))
        row = read_row("on b filter 0")
        wanted = sheet.printed(row, {"b": Shape("#.")})
        strange = {"a": Shape("#"), "c": Shape("###", "###"), "": Shape("."), "SKY": Shape("#."), "b": Shape("#.")}
        self.assertEqual(sheet.printed(row, strange), wanted)
        self.assertEqual(sheet.printed(row, dict(list(strange.items())[::-1])), wanted)
        self.assertEqual(len(strange), 5)
        self.assertEqual(sheet.printed(Row(), strange), sheet)
        self.assertEqual(sheet.printed(Row(), {}), sheet)
        self.assertEqual(sheet.printed(read_row("all filter 0"), {}), Sheet(2, 1, Light(), inked=True))

    def test_a_dict_that_is_changed_afterwards(self):
        sheet = Sheet(2, 1, Light(0))
        shapes = {"a": Shape("#.")}
        found = sheet.printed(read_row("on a filter 0"), shapes)
        shapes["a"] = Shape(".#")
        shapes["b"] = Shape("##")
        self.assertEqual(states_of(found), [[(0, True), (1, False)]])
        shapes.clear()
        self.assertEqual(states_of(found), [[(0, True), (1, False)]])

    def test_unknown_masks(self):
        sheet = Sheet(2, 1, Light(0))
        row = read_row("on d filter 0\non b filter 0\naround c filter 0\nall filter 1")
        right, wrong = Shape("#."), Shape("#")
        for shapes, mask in [({}, "b"), ({"b": right}, "c"), ({"b": right, "c": right}, "d"), ({"d": right}, "b"),
                             ({"b": wrong, "c": wrong}, "d"), ({"b": wrong, "a": right, "d": right}, "c")]:
            for keys in [list(shapes), list(shapes)[::-1]]:
                with self.assertRaises(UnknownMask) as caught:
                    sheet.printed(row, {key: shapes[key] for key in keys})
                self.assertEqual(caught.exception.mask, mask)

    def test_wrong_sizes(self):
        sheet = Sheet(2, 3, Light(0))
        row = read_row("on d filter 0\non b filter 0\naround c filter 0")
        right = Shape.blank(2, 3)
        for wrong in [Shape.blank(3, 2), Shape.blank(2, 2), Shape.blank(1, 3), Shape.blank(4, 3), Shape.blank(2, 6)]:
            for shapes, mask in [({"b": wrong, "c": wrong, "d": wrong}, "b"), ({"d": wrong, "c": right, "b": right}, "d"),
                                 ({"d": wrong, "c": wrong, "b": right}, "c"), ({"b": wrong, "c": right, "d": right}, "b")]:
                with self.assertRaises(WrongSize) as caught:
                    sheet.printed(row, {"a": wrong, **shapes})
                self.assertEqual(caught.exception.mask, mask)
        self.assertEqual(states_of(sheet), [[(1, False)] * 2] * 3)

    def test_mirrored(self):
        dice = random.Random(133)
        for plan in search.some_plans(133, 25, 6, NAMES[:3]):
            width, height = dice.choice(SIZES)
            sheet, row = mixed_sheet(dice, width, height), search.row_of(plan)
            states = states_of(sheet)
            turned = sheet.mirrored()
            self.assertIs(type(turned), Sheet)
            self.assertEqual(states_of(turned), [line[::-1] for line in states])
            self.assertEqual(states_of(sheet), states)
            self.assertEqual((turned.width, turned.height), (width, height))
            self.assertEqual(turned.mirrored(), sheet)
            shapes = some_shapes(dice, NAMES[:3], width, height)
            other = {name: shape.mirrored() for name, shape in shapes.items()}
            self.assertEqual(turned.printed(row, other), sheet.printed(row, shapes).mirrored())

    def test_large_sheets_and_long_rows(self):
        dice = random.Random(134)
        plan = search.some_plan(dice, 200, NAMES[:8], kinds=["filter", "bleach", "ink"])
        shapes = some_shapes(dice, NAMES[:8], 40, 40)
        sheet = mixed_sheet(dice, 40, 40)
        found = sheet.printed(search.row_of(plan), shapes)
        states, wanted = states_of(sheet), states_of(found)
        for x, y in [(0, 0), (39, 39), (0, 39), (39, 0)] + [(dice.randrange(40), dice.randrange(40)) for _ in range(60)]:
            opened = opened_in(shapes, NAMES[:8], x, y)
            self.assertEqual(wanted[y][x], search.after(plan, opened, *states[y][x]))


class Shares(unittest.TestCase):
    """Point 61."""

    def check(self, plan, screens, ground, inked):
        row = search.row_of(plan)
        names = search.masks_of(plan)
        text, lines = row.told(), {name: shape.lines for name, shape in screens.items()}
        width = math.lcm(*[screens[name].width for name in names])
        height = math.lcm(*[screens[name].height for name in names])
        found = shares(row, screens, light(ground), inked=inked)
        self.assertIs(type(found), list)
        states = printed_of([[(ground, inked)] * width for _ in range(height)], plan, screens)
        self.assertEqual([(colour.number, many) for colour, many in found], counts_of(states))
        self.assertEqual(sum(many for _, many in found), width * height)
        self.assertEqual((row.told(), {name: shape.lines for name, shape in screens.items()}), (text, lines))

    def test_screens_of_different_sizes(self):
        dice = random.Random(135)
        for plan in search.some_plans(135, 40, 6, NAMES[:3]):
            screens = {name: some_shape(dice, dice.choice([1, 2, 3, 4]), dice.choice([1, 2, 3, 5])) for name in NAMES[:3]}
            for inked in STARTS:
                self.check(plan, screens, dice.randrange(64), inked)

    def test_the_common_period(self):
        row = read_row("on a filter 0\non b filter 1")
        for one, other, places in [((2, 1), (3, 1), 6), ((4, 1), (6, 1), 12), ((2, 5), (3, 8), 240), ((8, 40), (5, 4), 1600)]:
            screens = {"a": Shape.blank(*one), "b": Shape.blank(*other, opened=True)}
            self.assertEqual(shares(row, screens, Light(0, 1)), [(Light(0), places)])

    def test_numbers_are_not_reduced(self):
        row = read_row("on a filter 0")
        self.assertEqual(shares(row, {"a": Shape("#.#.", "#.#.")}, Light(0)), [(Light(), 4), (Light(0), 4)])
        self.assertEqual(shares(row, {"a": Shape("##")}, Light(0)), [(Light(), 2)])

    def test_rows_without_masks(self):
        screens = {"a": Shape("#.#", "...")}
        self.assertEqual(shares(Row(), {}, Light(3)), [(Light(3), 1)])
        self.assertEqual(shares(Row(), screens, Light(3)), [(Light(3), 1)])
        self.assertEqual(shares(read_row("all filter 3 bare"), screens, Light(3)), [(Light(), 1)])
        self.assertEqual(shares(read_row("all filter 3 bare"), {}, Light(3), inked=True), [(Light(3), 1)])

    def test_masks_that_the_row_has_not(self):
        row = read_row("on b filter 0")
        screens = {"a": Shape("#.#"), "b": Shape("#."), "c": Shape("#", "."), "": Shape.blank(7, 7)}
        self.assertEqual(shares(row, screens, Light(0)), [(Light(), 1), (Light(0), 1)])
        self.assertEqual(shares(row, dict(list(screens.items())[::-1]), Light(0)), [(Light(), 1), (Light(0), 1)])
        self.assertEqual(list(screens), ["a", "b", "c", ""])

    def test_inked_left_out_is_bare(self):
        row = read_row("on a filter 0 bare\naround a filter 0 inked")
        screens = {"a": Shape("##.")}
        self.assertEqual(shares(row, screens, Light(0)), [(Light(), 2), (Light(0), 1)])
        self.assertEqual(shares(row, screens, Light(0), inked=False), [(Light(), 2), (Light(0), 1)])
        self.assertEqual(shares(row, screens, Light(0), inked=True), [(Light(), 1), (Light(0), 2)])

    def test_unknown_masks(self):
        row = read_row("on d filter 0\non b filter 0\naround c filter 0")
        screen = Shape("#")
        for screens, mask in [({}, "b"), ({"a": screen}, "b"), ({"d": screen, "b": screen}, "c"),
                              ({"c": screen, "b": screen}, "d"), ({"c": screen}, "b")]:
            with self.assertRaises(UnknownMask) as caught:
                shares(row, screens, Light(0))
            self.assertEqual(caught.exception.mask, mask)

    def test_long_rows_and_the_largest_period(self):
        dice = random.Random(136)
        plan = search.some_plan(dice, 200, NAMES[:8])
        sizes = [1, 2, 4, 5, 8, 10, 20, 40]
        screens = {name: some_shape(dice, sizes[at], sizes[-1 - at]) for at, name in enumerate(NAMES[:8])}
        self.check(plan[-12:], screens, 21, False)
        found = shares(search.row_of(plan), screens, Light(3))
        self.assertEqual(sum(many for _, many in found), 1600)

    def test_the_list_may_be_changed(self):
        shares(Row(), {}, Light(3)).clear()
        self.assertEqual(shares(Row(), {}, Light(3)), [(Light(3), 1)])


class ShapesTold(unittest.TestCase):
    """Point 62."""

    def check(self, plan, before, after):
        row = search.row_of(plan)
        text, one, other = row.told(), states_of(before), states_of(after)
        wanted = told_of(plan, one, other)
        if isinstance(wanted, dict):
            found = shapes_told(row, before, after)
            self.assertIs(type(found), dict)
            self.assertEqual(found, wanted)
            self.assertTrue(all(type(lines) is tuple for lines in found.values()))
        else:
            with self.assertRaises(CannotCome) as caught:
                shapes_told(row, before, after)
            self.assertEqual(caught.exception.place, wanted)
            self.assertIs(type(caught.exception.place), tuple)
        self.assertEqual((row.told(), states_of(before), states_of(after)), (text, one, other))
        return wanted

    def test_printed_sheets(self):
        dice = random.Random(137)
        signs = ""
        for plan in search.some_plans(137, 50, 5, NAMES[:4]):
            width, height = dice.choice(SIZES)
            before = mixed_sheet(dice, width, height)
            shapes = some_shapes(dice, NAMES[:4], width, height)
            told = self.check(plan, before, before.printed(search.row_of(plan), shapes))
            for name, lines in told.items():
                signs += "".join(lines)
                for line, real in zip(lines, shapes[name].lines):
                    self.assertTrue(all(sign in (place, "?") for sign, place in zip(line, real)))
        self.assertGreater(min(signs.count(sign) for sign in SIGNS), 60)

    def test_sheets_that_cannot_come(self):
        dice = random.Random(138)
        places = []
        for plan in search.some_plans(138, 60, 4, NAMES[:2], bands=2):
            before = Sheet(4, 3, light(dice.randrange(4)), inked=dice.choice(STARTS))
            spots = some_shape(dice, 4, 3) & some_shape(dice, 4, 3) & some_shape(dice, 4, 3)
            row = search.row_of(plan) + read_row("on spots bleach 5")
            after = before.printed(row, {**some_shapes(dice, NAMES[:2], 4, 3), "spots": spots})
            wanted = self.check(plan, before, after)
            places.append(wanted if isinstance(wanted, tuple) else None)
        self.assertGreater(len(set(places)), 7)

    def test_the_first_place_line_by_line(self):
        row = read_row("on a filter 0")
        before = Sheet(3, 3, Light(0))
        for lines, place in [(("..#", "#..", "###"), (2, 0)), (("...", ".##", "###"), (1, 1)), (("...", "...", "#.."), (0, 2))]:
            after = before.printed(read_row("on b bleach 5"), {"b": Shape(*lines)})
            with self.assertRaises(CannotCome) as caught:
                shapes_told(row, before, after)
            self.assertEqual(caught.exception.place, place)

    def test_only_the_colours_of_the_printed_sheet_count(self):
        row = read_row("on a filter 0\non b filter 1 inked")
        before = Sheet(2, 1, Light(0, 1))
        for inked in STARTS:
            after = Sheet(2, 1, Light(1), inked=inked)
            self.assertEqual(shapes_told(row, before, after), {"a": ("##",), "b": ("..",)})
        white = Sheet(2, 1, Light(0, 1), inked=True)
        self.assertEqual(shapes_told(row, before, white), {"a": ("..",), "b": ("??",)})
        self.assertEqual(shapes_told(row, white, Sheet(2, 1, Light(1))), {"a": ("##",), "b": ("..",)})
        self.assertEqual(shapes_told(row, white, Sheet(2, 1, Light(0))), {"a": ("..",), "b": ("##",)})

    def test_rows_without_masks(self):
        before = Sheet(2, 2, Light(0))
        self.assertEqual(shapes_told(Row(), before, before), {})
        row = read_row("all filter 0")
        self.assertEqual(shapes_told(row, before, Sheet(2, 2, Light())), {})
        with self.assertRaises(CannotCome) as caught:
            shapes_told(row, before, before)
        self.assertEqual(caught.exception.place, (0, 0))
        after = before.printed(read_row("around a filter 0"), {"a": Shape("..", ".#")})
        with self.assertRaises(CannotCome) as caught:
            shapes_told(row, before, after)
        self.assertEqual(caught.exception.place, (1, 1))

    def test_wrong_sizes_come_first(self):
        row = read_row("on a filter 0")
        for size in [(2, 1), (3, 3), (1, 6), (6, 1), (2, 3)]:
            for colour in [Light(0), Light(), Light(5)]:
                one, other = Sheet(3, 2, Light(0)), Sheet(*size, colour)
                for before, after in [(one, other), (other, one)]:
                    with self.assertRaises(WrongSize) as caught:
                        shapes_told(row, before, after)
                    self.assertIsNone(caught.exception.mask)

    def test_large_sheets_and_long_rows(self):
        dice = random.Random(139)
        plan = search.some_plan(dice, 200, NAMES[:8], kinds=["filter", "bleach"])
        shapes = some_shapes(dice, NAMES[:8], 40, 40)
        before = mixed_sheet(dice, 40, 40)
        after = before.printed(search.row_of(plan), shapes)
        told = shapes_told(search.row_of(plan), before, after)
        self.assertEqual(sorted(told), search.masks_of(plan))
        looks = {}
        for x, y in [(0, 0), (39, 39), (17, 4)] + [(dice.randrange(40), dice.randrange(40)) for _ in range(12)]:
            look = (search.state_told(before.at(x, y)), after.at(x, y)[0].number)
            if look not in looks:
                looks[look] = search.sets_showing(plan, NAMES[:8], look[0][0], look[1], look[0][1])
            for name, lines in told.items():
                self.assertEqual(lines[y][x], search.side_told(name, looks[look], SIGNS))
        self.assertEqual({len(line) for lines in told.values() for line in lines}, {40})

    def test_the_dict_may_be_changed(self):
        row = read_row("on a filter 0")
        before = Sheet(1, 1, Light(0))
        shapes_told(row, before, before).clear()
        self.assertEqual(shapes_told(row, before, before), {"a": (".",)})


if __name__ == "__main__":
    unittest.main()
