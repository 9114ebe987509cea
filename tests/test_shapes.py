"""Points 55 to 57, and points 2 and 70 for shapes."""

import itertools
import random
import unittest

from laidink.errors import InvalidShape, WrongSize
from laidink.shapes import Shape

HUGE = 10 ** 999
OTHER_SIGNS = [" ", "x", "O", "o", "1", "\n", "\t", "\r", "\u00e9", "\uff03", ",", "-", "\x00"]
WRONG_SIZES = [-HUGE, -41, -1, 0, 41, 42, 1000, HUGE]


def some_lines(dice, width, height):
    return ["".join(dice.choice("#.") for _ in range(width)) for _ in range(height)]


def some_shape(dice, width, height):
    return Shape(*some_lines(dice, width, height))


def wrong_line_of(lines):
    """The index of the first line that is not valid by the words of point 55, or None."""
    if not lines:
        return 0
    for at, line in enumerate(lines):
        if line == "" or len(line) > 40 or len(line) != len(lines[0]) or set(line) - {"#", "."} or at >= 40:
            return at
    return None


def wrong_size_of(width, height):
    """The index for a size that no shape has, or None."""
    if height < 1 or width < 1 or width > 40:
        return 0
    return 40 if height > 40 else None


class Examples(unittest.TestCase):
    def test_a_shape(self):
        shape = Shape("#.", "##")
        found = [(1, 0) in shape, shape.mirrored().lines, (~shape).lines, shape.tiled(3, 1).lines, shape.area()]
        self.assertEqual(found, [False, (".#", "##"), (".#", ".."), ("#.#",), 3])

    def test_a_line_that_is_not_valid(self):
        with self.assertRaises(InvalidShape) as caught:
            Shape("#.", "#")
        self.assertEqual(caught.exception.line, 1)


class Making(unittest.TestCase):
    """Point 55: Shape, Shape.of and the attributes."""

    def check(self, lines):
        wanted = wrong_line_of(lines)
        for make in [lambda: Shape(*lines), lambda: Shape.of(list(lines)), lambda: Shape.of(tuple(lines))]:
            if wanted is not None:
                with self.assertRaises(InvalidShape) as caught:
                    make()
                self.assertEqual(caught.exception.line, wanted)
            else:
                shape = make()
                self.assertIs(type(shape), Shape)
                self.assertIs(type(shape.lines), tuple)
                self.assertEqual((shape.lines, shape.width, shape.height), (tuple(lines), len(lines[0]), len(lines)))
                self.assertLessEqual({"lines", "width", "height"}, set(vars(shape)))
        return wanted

    def test_every_size(self):
        dice = random.Random(121)
        for width, height in [(1, 1), (1, 40), (40, 1), (40, 40), (39, 2), (7, 13)]:
            self.assertIsNone(self.check(some_lines(dice, width, height)))

    def test_no_line(self):
        self.assertEqual(self.check([]), 0)

    def test_empty_lines(self):
        for at, lines in [(0, [""]), (0, ["", ""]), (0, ["", "#"]), (1, ["#", ""]), (2, ["#.", "..", "", "##"])]:
            self.assertEqual(self.check(lines), at)
        self.assertEqual(self.check([""] * 50), 0)

    def test_long_lines(self):
        for width in [41, 42, 100]:
            self.assertEqual(self.check(["#" * width]), 0)
            self.assertEqual(self.check(["." * width] * 3), 0)
            self.assertEqual(self.check(["#" * 40, "#" * width]), 1)

    def test_many_lines(self):
        for width, height in itertools.product([1, 3, 40], [41, 42, 100]):
            self.assertEqual(self.check(["#" * width] * height), 40)
        self.assertEqual(self.check(["#"] * 40 + [""]), 40)
        self.assertEqual(self.check(["#"] * 39 + ["##"] + ["#"] * 5), 39)

    def test_lines_of_different_length(self):
        for at, lines in [(1, ["#.", "#"]), (1, ["#", "#."]), (2, ["#.", "##", "###", "#"]), (3, ["."] * 3 + [".."])]:
            self.assertEqual(self.check(lines), at)

    def test_other_characters(self):
        for sign in OTHER_SIGNS:
            self.assertEqual(self.check([sign]), 0)
            self.assertEqual(self.check(["#.", "." + sign]), 1)
            self.assertEqual(self.check(["#.", "##", sign + "#", "#"]), 2)
            self.assertEqual(self.check(["#" * 39 + sign] * 41), 0)

    def test_all_short_shapes_and_what_is_none(self):
        words = ["", "#", ".", "##", "#.", "x", ".x"]
        for many in range(4):
            for lines in itertools.product(words, repeat=many):
                self.check(list(lines))

    def test_the_list_is_copied_and_stays_as_it_is(self):
        lines = ["#.", ".."]
        shape = Shape.of(lines)
        self.assertEqual(lines, ["#.", ".."])
        lines.append("##")
        lines[0] = "##"
        self.assertEqual((shape.lines, shape.height), (("#.", ".."), 2))


class Blank(unittest.TestCase):
    """Point 55: Shape.blank, and point 57: the sizes of tiled shapes."""

    def test_sizes(self):
        for width, height in itertools.product([1, 2, 39, 40], repeat=2):
            self.assertEqual(Shape.blank(width, height).lines, ("." * width,) * height)
            self.assertEqual(Shape.blank(width, height, opened=False).lines, ("." * width,) * height)
            self.assertEqual(Shape.blank(width, height, opened=True).lines, ("#" * width,) * height)

    def test_wrong_sizes(self):
        for width, height in itertools.product([*WRONG_SIZES, 1, 40], repeat=2):
            wanted = wrong_size_of(width, height)
            if wanted is None:
                continue
            for make in [Shape.blank, Shape("#.", "..").tiled, lambda w, h: Shape.blank(w, h, opened=True)]:
                with self.assertRaises(InvalidShape) as caught:
                    make(width, height)
                self.assertEqual(caught.exception.line, wanted, (width, height))

    def test_they_are_shapes(self):
        shape = Shape.blank(3, 2, opened=True)
        self.assertIs(type(shape), Shape)
        self.assertEqual((shape.width, shape.height, shape.area()), (3, 2, 6))
        self.assertEqual(shape, Shape("###", "###"))


class Places(unittest.TestCase):
    """Point 56: places, areas, operators."""

    def test_every_place(self):
        dice = random.Random(122)
        for width, height in [(1, 1), (3, 2), (2, 5), (40, 40)]:
            lines = some_lines(dice, width, height)
            shape = Shape.of(lines)
            for x, y in itertools.product(range(width), range(height)):
                self.assertIs((x, y) in shape, lines[y][x] == "#")
            self.assertEqual(shape.area(), "".join(lines).count("#"))
            self.assertIs(type(shape.area()), int)

    def test_places_outside(self):
        for width, height in [(1, 1), (3, 2), (40, 40)]:
            shape = Shape.blank(width, height, opened=True)
            outside = [-HUGE, -width, -height, -2, -1]
            for x in [*outside, width, width + 1, 41, HUGE]:
                for y in [-1, 0, height - 1, height]:
                    self.assertIs((x, y) in shape, False)
            for y in [*outside, height, height + 1, 41, HUGE]:
                for x in [-1, 0, width - 1, width]:
                    self.assertIs((x, y) in shape, False)
            self.assertIs((width - 1, height - 1) in shape, True)
            self.assertIs((-1, -1) not in shape, True)

    def test_operators(self):
        dice = random.Random(123)
        for width, height in [(1, 1), (2, 3), (5, 4), (40, 40)]:
            for _ in range(5):
                a, b = some_shape(dice, width, height), some_shape(dice, width, height)
                kept = (a.lines, b.lines)
                found = {"and": a & b, "or": a | b, "minus": a - b, "not": ~a}
                for x, y in itertools.product(range(width), range(height)):
                    one, other = (x, y) in a, (x, y) in b
                    wanted = {"and": one and other, "or": one or other, "minus": one and not other, "not": not one}
                    self.assertEqual({word: (x, y) in shape for word, shape in found.items()}, wanted)
                for shape in found.values():
                    self.assertIs(type(shape), Shape)
                    self.assertEqual((shape.width, shape.height), (width, height))
                self.assertEqual((a.lines, b.lines), kept)
                self.assertEqual(found["minus"], a & ~b)

    def test_shapes_of_other_sizes(self):
        shape = Shape("#.", "..")
        for other in [Shape("#."), Shape("#", "."), Shape("#.", "..", "##"), Shape("#..", "..."), Shape("####")]:
            for join in [lambda a, b: a & b, lambda a, b: a | b, lambda a, b: a - b]:
                for a, b in [(shape, other), (other, shape)]:
                    with self.assertRaises(WrongSize) as caught:
                        join(a, b)
                    self.assertIsNone(caught.exception.mask)
            self.assertEqual((shape.lines, shape.width, shape.height), (("#.", ".."), 2, 2))

    def test_equal(self):
        words = [("#",), (".",), ("##",), ("#", "#"), ("#.", ".#"), (".#", "#."), ("##", "##"), ("####",)]
        for one, other in itertools.product(words, repeat=2):
            self.assertIs(Shape(*one) == Shape.of(list(other)), one == other)
            self.assertIs(Shape(*one) != Shape(*other), one != other)
        self.assertEqual(Shape("#.#"), Shape("#.").tiled(3, 1))

    def test_not_equal_to_what_is_no_shape(self):
        shape = Shape("#.")
        for value in [("#.",), ["#."], "#.", None, 1, False, shape.lines]:
            self.assertIs(shape == value, False)
            self.assertIs(value == shape, False)
            self.assertIs(shape != value, True)


class Turned(unittest.TestCase):
    """Point 57."""

    def test_mirrored(self):
        dice = random.Random(124)
        for width, height in [(1, 1), (1, 4), (2, 1), (3, 2), (40, 40)]:
            shape = some_shape(dice, width, height)
            kept = shape.lines
            turned = shape.mirrored()
            self.assertIs(type(turned), Shape)
            self.assertEqual((turned.width, turned.height), (width, height))
            for x, y in itertools.product(range(width), range(height)):
                self.assertIs((x, y) in turned, (width - 1 - x, y) in shape)
            self.assertEqual(turned.mirrored(), shape)
            self.assertEqual(shape.lines, kept)

    def test_tiled(self):
        dice = random.Random(125)
        sizes = [(1, 1), (1, 3), (2, 1), (3, 2), (7, 5), (40, 40)]
        for (width, height), (wide, high) in itertools.product(sizes, [*sizes, (39, 1), (1, 40), (12, 11)]):
            shape = some_shape(dice, width, height)
            kept = shape.lines
            tiled = shape.tiled(wide, high)
            self.assertEqual((tiled.width, tiled.height), (wide, high))
            for x, y in itertools.product(range(wide), range(high)):
                self.assertIs((x, y) in tiled, (x % width, y % height) in shape)
            self.assertEqual(shape.lines, kept)


if __name__ == "__main__":
    unittest.main()
