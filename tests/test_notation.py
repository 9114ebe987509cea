"""Points 53 and 54."""

import itertools
import random
import unittest

from laidink.errors import InvalidText, TooLong, TooManyMasks
from laidink.inks import Bleach, Filter, Ink, Opaque
from laidink.light import Light
from laidink.notation import read_row, write_row
from laidink.rows import Pass, Row
from tests import search
from tests.search import NAMES

LIGHTS = ["-"] + [str(Light.numbered(number)) for number in range(1, 64)]
NO_LIGHTS = [
    "", "1.0", "0.0", "6", "0.6", "0.", ".0", "00", "01", "0.1.", ".", "..", "0..1", "0,1", "0.2.1",
    "0.1.1", "--", "-0", "0.-", "-.0", "-1", "+1", "0x1", "a", "\u0661", "\u00b2", "0.\u0661", "0.1.2.3.4.5.6",
    "0 1", "0\t", "0\r", "5.4", "1 ", "0.10", "9", "Light()", "0.1.2.3.4.5.5",
]
NO_INKS = [
    "", "filter", "opaque", "bleach", "ink", "filter 0 1", "opaque - -", "bleach 0 1 2", "ink 0",
    "ink -", "ink 0 1 2", "ink - bare", "filter bare", "filter inked", "Filter 0", "FILTER 0", "dye 0", "0",
    "0 filter", "- ink -", "filters 0", "filte 0", "filter 0 any", "filter 0 Bare", "filter 0 bar",
    "filter 0 bare bare", "filter 0 bare inked", "bare filter 0", "filter bare 0", "ink 0 bare 1",
    "ink 0 0", "ink 0.1 1.2", "ink 1.2 0.1.2 bare", "ink 0.1.2.3.4.5 5", "bare", "inked", "ink 0 1 any",
    "ink bare inked", "ink 0 1 0", "filter -0", "ink ink 0", "filter filter", "ink 0 1 bare inked",
]
NO_SIDES = [
    "", "on", "around", "all a", "all all", "On a", "ON a", "onto a", "in a", "a", "on on a", "on a b",
    "around around a", "on a around", "a on", "all on a", "on 1", "on A", "on seventh", "around abcdefg",
    "on a1", "on a.b", "on -", "around None", "All", "ALL", "al", "alls", "none", "on \u00e9", "on a\t", "\ton a",
]


class Examples(unittest.TestCase):
    def test_refused(self):
        with self.assertRaises(InvalidText) as caught:
            read_row("all filter 0\non a filter 1.0")
        self.assertEqual(caught.exception.line, 2)

    def test_written(self):
        self.assertEqual(write_row(read_row("around moon ink 0.3 1 inked")), "around moon ink 0.3 1 inked")


class Written(unittest.TestCase):
    """Point 53."""

    def test_no_passes(self):
        self.assertEqual(write_row(Row()), "")
        self.assertEqual(read_row(""), Row())
        self.assertEqual(Row().told(), "")

    def test_lines(self):
        row = Row(
            Pass(None, Ink(Light(), Light(), takes="bare")),
            Pass("sky", Opaque(Light(1, 2))),
            Pass("moon", Bleach(Light.white(), takes="inked"), around=True),
        )
        text = "all ink - - bare\non sky opaque 1.2\naround moon bleach 0.1.2.3.4.5 inked"
        self.assertEqual(write_row(row), text)
        self.assertEqual(row.told(), text)

    def test_row_and_function_write_the_same(self):
        for plan in search.some_plans(11, 40, 12, NAMES[:8]):
            row = search.row_of(plan)
            self.assertEqual(row.told(), write_row(row))
            self.assertEqual(row.told(), "\n".join(one.told() for one in row))


class ReadBack(unittest.TestCase):
    """Point 54: valid texts."""

    def check_text(self, text):
        row = read_row(text)
        self.assertIs(type(row), Row)
        self.assertEqual(write_row(row), text)
        return row

    def test_rows_of_every_kind(self):
        for plan in search.some_plans(12, 200, 10, NAMES[:8]):
            row = search.row_of(plan)
            again = self.check_text(write_row(row))
            self.assertEqual(again, row)
            self.assertEqual([type(one.ink) for one in again], [type(one.ink) for one in row])

    def test_every_light(self):
        for word, kind in itertools.product(LIGHTS, [Filter, Opaque, Bleach]):
            row = self.check_text(f"all {kind.__name__.lower()} {word}")
            bands = [] if word == "-" else [int(digit) for digit in word.split(".")]
            self.assertEqual(row, Row(Pass(None, kind(Light(*bands)))))
            self.assertIs(type(row[0].ink), kind)

    def test_every_pair_of_lights(self):
        for off, on in itertools.product(LIGHTS, repeat=2):
            text = f"on a ink {off} {on}"
            if set(off) & set(on) & set("012345"):
                with self.assertRaises(InvalidText):
                    read_row(text)
            else:
                self.assertIs(type(self.check_text(text)[0].ink), Ink)

    def test_every_condition_and_side(self):
        inks = ["ink 0 1", "ink - -", "filter -", "opaque 1.4", "bleach 5"]
        sides = ["all", "on a", "around a", "on all", "on on", "around around", "on bare", "around ink"]
        sides += ["on inked", "on filter", "on abcdef", "around zzzzzz"]
        for side, ink, behind in itertools.product(sides, inks, ["", " bare", " inked"]):
            row = self.check_text(f"{side} {ink}{behind}")
            self.assertEqual(row[0].ink.takes, behind.strip() or "any")
            self.assertEqual(row[0].around, side.startswith("around"))
            self.assertEqual(row[0].mask, None if side == "all" else side.split()[1])

    def test_long_rows(self):
        text = write_row(search.row_of(search.some_plan(random.Random(13), 200, NAMES[:8])))
        self.assertEqual(len(self.check_text(text)), 200)


class Refused(unittest.TestCase):
    """Point 54: texts that are not valid."""

    def check_refused(self, text, line):
        with self.assertRaises(InvalidText) as caught:
            read_row(text)
        self.assertEqual(caught.exception.line, line, text)

    def check_line(self, line):
        """The line is refused alone, and wherever it stands among valid lines."""
        good = "on sky filter 0"
        if line != "":
            self.check_refused(line, 1)
        self.check_refused(line + "\n" + good, 1)
        self.check_refused(good + "\n" + line, 2)
        self.check_refused("\n".join([good, good, line, good, line]), 3)

    def test_empty_lines(self):
        self.check_line("")
        self.check_refused("\n", 1)
        self.check_refused("all filter 0\n", 2)
        self.check_refused("all filter 0\n\n", 2)
        self.check_refused("\nall filter 0", 1)

    def test_lights(self):
        for word in NO_LIGHTS:
            for ink in ["filter {}", "opaque {}", "bleach {} bare", "ink {} -", "ink - {}", "ink {} 3 inked"]:
                if (word, ink[:3]) != ("0 1", "ink"):
                    self.check_line("all " + ink.format(word))

    def test_inks(self):
        for ink in NO_INKS:
            for side in ["all", "on a", "around moon"]:
                self.check_line(side + " " + ink)

    def test_sides(self):
        for side in NO_SIDES:
            for ink in ["filter 0", "ink 0 1 bare", "opaque -"]:
                self.check_line(side + " " + ink)

    def test_lines_that_end_too_soon(self):
        for line in ["on", "around", "all", "a", "filter", "bare", "-", "0", "ink 0 1", "filter 0", "on a", "all bare"]:
            self.check_line(line)
            self.check_line(line + " ")

    def test_blanks(self):
        for line in ["all filter 0", "on sky ink 0 1 bare", "around moon bleach 2.3 inked"]:
            self.check_line(" " + line)
            self.check_line(line + " ")
            for at, sign in enumerate(line):
                if sign == " ":
                    self.check_line(line[:at] + "  " + line[at + 1:])
                    for other in ["", "\t", "\r", "\u00a0", "\v", "\x0c", "\x1c", "\u2028", " \t", "_"]:
                        self.check_line(line[:at] + other + line[at + 1:])

    def test_other_ends_of_lines(self):
        for end in ["\r\n", "\r", "\v", "\x0c", "\x85", "\u2028", "\x1e"]:
            self.check_refused("all filter 0" + end + "all filter 1", 1)
        self.check_refused("all filter 0\n\rall filter 1", 2)

    def test_words_exchanged(self):
        for line in ["on sky filter 0", "around moon ink 0 1 bare", "all opaque 3 inked"]:
            words = line.split(" ")
            for order in itertools.permutations(words):
                swapped = [word for word in order]
                if swapped != words and swapped != ["around", "moon", "ink", "1", "0", "bare"]:
                    self.check_line(" ".join(swapped))

    def test_words_left_out_or_twice(self):
        for line in ["on sky filter 0", "around moon ink 0 1 bare", "all opaque 3"]:
            words = line.split(" ")
            for at in range(len(words)):
                left = words[:at] + words[at + 1:]
                if left[-1] != "1":
                    self.check_line(" ".join(left))
                self.check_line(" ".join(words[:at + 1] + words[at:]))

    def test_one_sign_changed(self):
        signs = "0156abfikn.- \t#A"
        for line in ["on sky ink 0.3 1 bare", "all filter 2.3"]:
            for at, sign in itertools.product(range(len(line)), signs):
                text = line[:at] + sign + line[at + 1:]
                try:
                    row = read_row(text)
                except InvalidText as error:
                    self.assertEqual(error.line, 1)
                else:
                    self.assertEqual(write_row(row), text)

    def test_the_first_invalid_line(self):
        good = ["all filter 0"] * 300
        for at in [0, 1, 199, 200, 299]:
            lines = list(good)
            lines[at] = "all filter 6"
            lines[299] = "wrong"
            self.check_refused("\n".join(lines), at + 1)

    def test_rows_that_are_too_long_or_have_too_many_masks(self):
        with self.assertRaises(TooLong) as caught:
            read_row("\n".join(["all filter 0"] * 201))
        self.assertEqual(caught.exception.many, 201)
        names = [f"on {name} filter 0" for name in NAMES]
        with self.assertRaises(TooManyMasks) as caught:
            read_row("\n".join(names))
        self.assertEqual(caught.exception.many, 10)
        with self.assertRaises(TooLong):
            read_row("\n".join(names * 21))
        self.check_refused("\n".join(names + [""]), 11)
        self.check_refused("\n".join(["all filter 0"] * 201 + ["x"]), 202)


if __name__ == "__main__":
    unittest.main()
