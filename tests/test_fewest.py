"""Point 52, and point 2 for it."""

import itertools
import random
import unittest

from laidink.errors import TooLong, TooManyMasks
from laidink.fewest import fewest_row
from laidink.inks import Bleach, Filter, Ink, Opaque
from laidink.light import Light
from laidink.notation import read_row, write_row
from laidink.rows import Row
from tests import search
from tests.search import NAMES, STARTS, step

HUGE = 10 ** 999


def fewest_of(plan, inks, most):
    """The first plan of the inks, told as steps without a mask, by the words of point 52."""
    names = search.masks_of(plan)
    sides = [(None, False)] + list(itertools.product(names, STARTS))
    menu = [ink._replace(mask=mask, around=around) for mask, around in sides for ink in inks]
    wanted = search.films_told(plan, names)
    for many in range(most + 1):
        for tried in itertools.product(menu, repeat=many):
            if search.films_told(tried, names) == wanted:
                return list(tried)
    return None


class Examples(unittest.TestCase):
    def test_fewest_row(self):
        row = read_row("on a opaque 1\naround a opaque 2\non a opaque 1")
        found = fewest_row(row, [Opaque(Light(1)), Opaque(Light(2))])
        self.assertEqual(write_row(found), "all opaque 1\naround a opaque 2")


class Fewest(unittest.TestCase):
    def check(self, plan, inks, **most):
        row = search.row_of(plan)
        passed = [search.ink_of(ink) for ink in inks]
        text, told = row.told(), [ink.told() for ink in passed]
        found = fewest_row(row, passed, **most)
        wanted = fewest_of(plan, inks, **{"most": 3, **most})
        if wanted is None:
            self.assertIsNone(found)
        else:
            self.assertIs(type(found), Row)
            self.assertEqual(found.told(), search.row_of(wanted).told())
        self.assertEqual((row.told(), [ink.told() for ink in passed]), (text, told))
        return None if found is None else len(found)

    def some_inks(self, dice, many, **more):
        return [search.some_step(dice, [], **more) for _ in range(many)]

    def test_rows_of_the_inks_themselves(self):
        dice = random.Random(111)
        lengths = []
        for _ in range(90):
            names = NAMES[:dice.choice([0, 1, 2, 2])]
            inks = self.some_inks(dice, dice.randrange(1, 4))
            plan = []
            for _ in range(dice.randrange(7)):
                mask = dice.choice([None, *names])
                around = mask is not None and dice.random() < 0.5
                plan.append(dice.choice(inks)._replace(mask=mask, around=around))
            lengths.append(self.check(plan, inks, most=dice.choice([0, 1, 2, 3, 3, 3])))
        self.assertGreaterEqual(min(lengths.count(length) for length in [None, 0, 1, 2, 3]), 3)

    def test_other_rows(self):
        dice = random.Random(112)
        lengths = []
        for plan in search.some_plans(112, 60, 3, ["sky"], bands=1, takes=["any", "inked"]):
            inks = self.some_inks(dice, 3, bands=1)
            lengths.append(self.check(plan, inks))
            self.assertEqual(lengths[-1], self.check(plan, inks, most=3))
        self.assertGreater(len(set(lengths)), 3)

    def test_most(self):
        plan = [step(None, "opaque", [1]), step("a", "opaque", [2]), step("b", "opaque", [3])]
        inks = [step(None, "opaque", [band]) for band in [3, 1, 2]]
        self.assertEqual([self.check(plan, inks, most=most) for most in range(4)], [None, None, None, 3])
        self.assertEqual(self.check(plan, inks), 3)
        self.assertEqual([self.check(plan[:2], inks, most=most) for most in range(4)], [None, None, 2, 2])
        self.assertEqual([self.check(plan[:1] * 9, inks, most=most) for most in range(4)], [None, 1, 1, 1])

    def test_a_row_that_prints_like_the_row_without_passes(self):
        for text in ["", "on a filter - inked", "all bleach - inked\naround b filter - inked"]:
            for inks in [[], [Filter(Light(0))], [Filter(Light(), takes="inked")]]:
                for most in range(4):
                    self.assertEqual(fewest_row(read_row(text), inks, most=most), Row())
        self.assertIsNone(fewest_row(read_row("all filter -"), [Filter(Light(), takes="inked")]))

    def test_an_empty_list_of_inks(self):
        self.assertIsNone(fewest_row(read_row("on a filter 0"), []))
        self.assertEqual(fewest_row(Row(), []), Row())

    def test_the_order_of_the_menu(self):
        black = Light()
        inks = [Ink(~black, black), Opaque(black), Filter(~black)]
        for order in itertools.permutations(inks):
            found = fewest_row(read_row("on a opaque -"), list(order))
            self.assertEqual(found.told(), f"on a {order[0].told()}")
        row = read_row("on b filter 0\non a filter 0")
        self.assertEqual(fewest_row(row, [Filter(Light(0))]).told(), "on a filter 0\non b filter 0")
        row = read_row("around a filter 0\non a filter 1\nall filter 2")
        found = fewest_row(row, [Filter(Light(1)), Filter(Light(0, 2)), Filter(Light(2))])
        self.assertEqual(found.told(), "all filter 2\non a filter 1\naround a filter 0.2")

    def test_masks_that_the_print_does_not_need(self):
        row = read_row("on b filter - inked\nall opaque 1\nall filter - inked")
        self.assertEqual(fewest_row(row, [Opaque(Light(1))]).told(), "all opaque 1")
        row = read_row("around z opaque 1\non z opaque 1")
        self.assertEqual(fewest_row(row, [Opaque(Light(1))]).told(), "all opaque 1")

    def test_four_inks_two_masks_and_a_long_row(self):
        inks = [Filter(Light(0)), Bleach(Light(0), takes="inked"), Opaque(Light(1)), Ink(Light(2), Light(3))]
        row = read_row("\n".join(["around a opaque 1", "on b bleach 0 inked", "on a filter 0"] * 60))
        plan = [step("a", "opaque", [1], around=True), step("b", "bleach", [0], takes="inked"), step("a", "filter", [0])]
        found = fewest_row(row, inks)
        wanted = fewest_of(plan * 60, [
            step(None, "filter", [0]), step(None, "bleach", [0], takes="inked"), step(None, "opaque", [1]),
            step(None, "ink", [2], [3])], 3)
        self.assertEqual(found, None if wanted is None else search.row_of(wanted))

    def test_too_long(self):
        for masks in [0, 2, 3, 8]:
            row = search.row_of([step(name, "filter", [0]) for name in NAMES[:masks]])
            for most in [4, 5, 200, HUGE]:
                for inks in [[], [Filter(Light(0))]]:
                    with self.assertRaises(TooLong) as caught:
                        fewest_row(row, inks, most=most)
                    self.assertEqual(caught.exception.many, most)

    def test_too_many_masks(self):
        for masks in [3, 4, 8]:
            row = search.row_of([step(name, "filter", [0]) for name in NAMES[:masks]])
            for most in range(4):
                with self.assertRaises(TooManyMasks) as caught:
                    fewest_row(row, [Filter(Light(0))], most=most)
                self.assertEqual(caught.exception.many, masks)
            with self.assertRaises(TooManyMasks):
                fewest_row(row, [])
        self.assertEqual(fewest_row(row.without(*range(2, 8)), [Filter(Light(0))]), row.without(*range(2, 8)))

    def test_the_list_stays_as_it_is(self):
        inks = [Opaque(Light(1)), Filter(Light(0))]
        kept = list(inks)
        fewest_row(read_row("on a filter 0\nall opaque 1"), inks)
        self.assertEqual(len(inks), 2)
        self.assertTrue(all(one is other for one, other in zip(inks, kept)))


if __name__ == "__main__":
    unittest.main()
