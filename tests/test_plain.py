"""Points 34 to 40, and point 2 for them."""

import itertools
import random
import unittest

from laidink.errors import Conditional, InvalidBand, NoSuchPass, NotAnOrder
from laidink.inks import Bleach, Filter, Ink
from laidink.light import Light
from laidink.notation import read_row, write_row
from laidink.plain import joined, levels, needless, plainest, thinned
from laidink.rows import Pass, Row
from tests import search
from tests.search import NAMES, STARTS, step

HUGE = 10 ** 999
ANY = ["any"]
NO_BANDS = [-HUGE, -1, 6, 7, HUGE]


def levels_of(plan, band):
    """The levels by the words of point 34."""
    names = search.masks_of(plan)
    left = {opened: search.effect(plan, opened, False)[0][band] for opened in search.all_sets(names)}
    found = []
    while left and set(left.values()) != {"leave"}:
        if len(set(left.values())) == 1:
            found.append([(None, False, set(left.values()).pop())])
            break
        level, gone = [], set()
        for name, around in itertools.product(names, STARTS):
            there = [opened for opened in left if (name in opened) != around]
            values = {left[opened] for opened in there}
            if len(values) == 1:
                gone.update(there)
                level.append((name, around, values.pop()))
        found.append([triple for triple in level if triple[2] != "leave"])
        left = {opened: value for opened, value in left.items() if opened not in gone}
    return found


def plainest_of(plan):
    """The written lines of the plainest row by the words of point 36."""
    names = search.masks_of(plan)
    marks = {opened: search.effect(plan, opened, False)[1] for opened in search.all_sets(names)}
    lines = []
    if all(marks.values()):
        lines.append("all filter -")
    else:
        for name, around in itertools.product(names, STARTS):
            if all(mark for opened, mark in marks.items() if (name in opened) != around):
                lines.append(side_told(name, around) + " filter -")
    for band in range(6):
        for level in levels_of(plan, band)[::-1]:
            for name, around, value in level:
                kind = {"off": "filter", "on": "bleach"}[value]
                lines.append(f"{side_told(name, around)} {kind} {band}")
    return "\n".join(lines)


def side_told(name, around):
    return "all" if name is None else ("around " if around else "on ") + name


def needless_of(plan, ground=None, inked=None):
    """The needless passes by the words of point 38."""
    return [at for at in range(len(plan))
            if search.print_alike(plan[:at] + plan[at + 1:], plan, ground, inked)]


def unconditional(seed, many, length, names, **more):
    return search.some_plans(seed, many, length, names, takes=ANY, **more)


def one_colour_each(seed, many, names):
    """Rows in which each mask is printed in one opaque colour, through or around it."""
    dice = random.Random(seed)
    found = []
    for _ in range(many):
        mixed = list(names)
        dice.shuffle(mixed)
        found.append([step(name, "opaque", [band for band in range(6) if dice.random() < 0.5],
                           around=dice.random() < 0.5) for name in mixed])
    return found


class Examples(unittest.TestCase):
    def test_levels(self):
        row = read_row("all filter 0\non b filter 0\non a bleach 0")
        self.assertEqual(levels(row, 0), [[("a", False, "on"), ("a", True, "off")]])

    def test_plainest(self):
        text = write_row(plainest(read_row("on b filter 0\non a bleach 0.2")))
        wanted = "on a filter -\non b filter -\non b filter 0\non a bleach 0\non a bleach 2"
        self.assertEqual(text, wanted)

    def test_needless(self):
        row = read_row("on a filter 0\non b bleach 1\non a opaque 0.1")
        self.assertEqual(needless(row), [0])

    def test_joined(self):
        row = joined(read_row("on a filter 0.1\non b filter 0\non a bleach 1"), 0, 2)
        self.assertEqual(write_row(row), "on b filter 0\non a ink 0 1")


class Levels(unittest.TestCase):
    """Points 34 and 35."""

    def check_plan(self, plan, bands=range(6)):
        row = search.row_of(plan)
        text = row.told()
        for band in bands:
            found = levels(row, band)
            self.assertEqual(found, levels_of(plan, band))
            self.check_forms(found)
            self.check_print(plan, found, band)
        self.assertEqual(row.told(), text)

    def check_forms(self, found):
        self.assertIs(type(found), list)
        for level in found:
            self.assertIs(type(level), list)
            self.assertNotEqual(level, [])
            self.assertEqual({type(triple) for triple in level}, {tuple})
            self.assertEqual({type(around) for _, around, _ in level}, {bool})

    def check_print(self, plan, found, band):
        """A print of the levels from the last to the first gives each set its value."""
        for opened in search.all_sets(search.masks_of(plan)):
            value = "leave"
            for level in found[::-1]:
                for name, around, word in level:
                    if name is None or (name in opened) != around:
                        value = word
            self.assertEqual(value, search.effect(plan, opened, False)[0][band])

    def test_short_rows(self):
        for plan in unconditional(51, 150, 7, NAMES[:3], bands=3):
            self.check_plan(plan)

    def test_longer_rows(self):
        for plan in unconditional(52, 15, 14, NAMES[:6], bands=2):
            self.check_plan(plan, [0, 1, 5])

    def test_many_levels(self):
        plan = [step(None, "filter", [0])]
        for at, name in enumerate(NAMES[:5]):
            plan.append(step(name, ["bleach", "filter"][at % 2], [0], around=at % 3 == 0))
        self.check_plan(plan)
        self.assertEqual(len(levels(search.row_of(plan), 0)), 5)

    def test_opaque_rows_of_eight_masks(self):
        for plan in one_colour_each(53, 4, NAMES[:8]):
            self.check_plan(plan)

    def test_long_rows_of_eight_masks(self):
        plan = search.some_plan(random.Random(54), 200, NAMES[:8], takes=ANY)
        self.check_plan(plan, [3])

    def test_bands_that_are_left_alone(self):
        row = read_row("on a filter 0\naround b bleach 1")
        self.assertEqual([levels(row, band) for band in range(2, 6)], [[], [], [], []])
        self.assertEqual(levels(Row(), 3), [])
        self.assertEqual(levels(read_row("all filter -"), 0), [])

    def test_one_value_at_all_sets(self):
        self.assertEqual(levels(read_row("all filter 0"), 0), [[(None, False, "off")]])
        row = read_row("on a bleach 3\naround a bleach 3\nall filter 1")
        self.assertEqual(levels(row, 3), [[(None, False, "on")]])
        self.assertEqual(levels(row, 1), [[(None, False, "off")]])

    def test_sets_that_are_left_alone(self):
        self.assertEqual(levels(read_row("on a filter 0"), 0), [[("a", False, "off")]])
        row = read_row("on b filter 0\naround a bleach 0")
        self.assertEqual(levels(row, 0), [[("a", True, "on")], [("b", False, "off")]])

    def test_later_literals_of_one_level_keep_the_others(self):
        row = read_row("on b filter 0\non a filter 0")
        self.assertEqual(levels(row, 0), [[("a", False, "off"), ("b", False, "off")]])
        row = read_row("on b bleach 0\non a filter 0\nall filter 1")
        self.assertEqual(levels(row, 0), [[("a", False, "off")], [("b", False, "on")]])

    def test_conditional(self):
        lines = ["on a filter 0", "all bleach 1", "around b opaque 3"]
        for takes in ["bare", "inked"]:
            for at in range(3):
                for also in range(at, 3):
                    told = [line + (f" {takes}" if n in (at, also) else "") for n, line in enumerate(lines)]
                    row = read_row("\n".join(told))
                    for band in [0, 5, *NO_BANDS]:
                        with self.assertRaises(Conditional) as caught:
                            levels(row, band)
                        self.assertEqual(caught.exception.number, at)
                    with self.assertRaises(Conditional) as caught:
                        plainest(row)
                    self.assertEqual(caught.exception.number, at)

    def test_no_band(self):
        for row in [Row(), read_row("on a filter 0")]:
            for band in NO_BANDS:
                with self.assertRaises(InvalidBand) as caught:
                    levels(row, band)
                self.assertEqual(caught.exception.band, band)

    def test_the_lists_may_be_changed(self):
        row = read_row("on b filter 0\naround a bleach 0")
        found = levels(row, 0)
        found[0].append("x")
        found.clear()
        self.assertEqual(levels(row, 0), [[("a", True, "on")], [("b", False, "off")]])


class Plainest(unittest.TestCase):
    """Points 36 and 37."""

    def check_plan(self, plan):
        row = search.row_of(plan)
        text = row.told()
        found = plainest(row)
        self.assertIs(type(found), Row)
        self.assertEqual(write_row(found), plainest_of(plan))
        self.assertEqual({type(one.ink) for one in found} - {Filter, Bleach}, set())
        for opened in search.all_sets(row.masks):
            self.assertEqual(search.film_told(found.film_at(opened)), search.effects(plan, opened))
        self.assertEqual(plainest(found), found)
        self.assertEqual(row.told(), text)
        return found

    def test_short_rows(self):
        for plan in unconditional(55, 120, 6, NAMES[:3], bands=3):
            self.check_plan(plan)

    def test_rows_of_six_masks(self):
        for plan in one_colour_each(56, 5, NAMES[:6]) + unconditional(57, 10, 20, NAMES[:6]):
            self.check_plan(plan)

    def test_long_rows(self):
        self.check_plan(search.some_plan(random.Random(58), 200, NAMES[:8], takes=ANY))

    def test_no_passes(self):
        self.assertEqual(plainest(Row()), Row())

    def test_clear_passes(self):
        pairs = [
            ("all filter -", "all filter -"),
            ("on a filter -", "on a filter -"),
            ("around a filter -", "around a filter -"),
            ("on a filter -\naround a filter -", "all filter -"),
            ("around b filter -\non a filter -", "on a filter -\naround b filter -"),
            ("on b filter -\naround b filter -\non a filter -", "all filter -"),
            ("on a filter -\nall bleach 1", "all filter -\nall bleach 1"),
            ("on a bleach 1", "on a filter -\non a bleach 1"),
        ]
        for text, wanted in pairs:
            self.assertEqual(write_row(plainest(read_row(text))), wanted)
        found = write_row(plainest(read_row("on c opaque 1\naround a bleach 5"))).split("\n")
        self.assertEqual(found[:2], ["around a filter -", "on c filter -"])

    def test_the_order_of_the_passes(self):
        text = write_row(plainest(read_row("all opaque 5\non b filter 0.5\naround a bleach 0.5")))
        wanted = [
            "all filter -",
            "on a filter 0", "around a bleach 0",
            *[f"all filter {band}" for band in range(1, 5)],
            "all filter 5", "around a bleach 5", "around b bleach 5",
        ]
        self.assertEqual(text.split("\n"), wanted)

    def test_equal_exactly_for_rows_that_print_alike(self):
        dice = random.Random(59)
        answers = []
        for plan in unconditional(59, 150, 5, NAMES[:3], bands=1):
            other = search.changed(dice, plan, NAMES[:3], bands=1, takes=ANY)
            wanted = search.print_alike(plan, other)
            same = plainest(search.row_of(plan)) == plainest(search.row_of(other))
            self.assertIs(same, wanted)
            answers.append(wanted)
        self.assertGreater(min(answers.count(True), answers.count(False)), 30)

    def test_masks_that_only_one_row_has(self):
        for plan in unconditional(60, 40, 5, NAMES[:2], bands=2):
            hidden = [step("z", "bleach", [0, 1]), step("c", "filter", [2], around=True)]
            cover = plan + [step(None, "opaque", [1]), *plan]
            longer = hidden + cover
            self.assertEqual(plainest(search.row_of(longer)), plainest(search.row_of(cover)))
        same = [read_row("on a opaque 1\naround a opaque 1"), read_row("all opaque 1")]
        self.assertEqual(plainest(same[0]), plainest(same[1]))


class Needless(unittest.TestCase):
    """Points 38 and 39."""

    def check_plan(self, plan, grounds=(None,), starts=(None,)):
        row = search.row_of(plan)
        text = row.told()
        for ground, inked in itertools.product(grounds, starts):
            passed = {} if ground is None else {"ground": Light.numbered(ground)}
            if inked is not None:
                passed["inked"] = inked
            found = needless(row, **passed)
            self.assertIs(type(found), list)
            self.assertEqual(found, needless_of(plan, ground, inked))
        self.assertEqual(row.told(), text)

    def check_thinned(self, plan):
        row = search.row_of(plan)
        text = row.told()
        left = list(plan)
        while needless_of(left):
            del left[needless_of(left)[0]]
        found = thinned(row)
        self.assertIs(type(found), Row)
        self.assertEqual(found, search.row_of(left))
        self.assertEqual(found.told(), search.row_of(left).told())
        self.assertEqual(row.told(), text)

    def test_short_rows(self):
        for plan in search.some_plans(61, 80, 6, NAMES[:2], bands=2):
            self.check_plan(plan)
            self.check_thinned(plan)

    def test_grounds_and_starts(self):
        for plan in search.some_plans(62, 30, 5, NAMES[:2], bands=2):
            self.check_plan(plan, [None, 0, 1, 2, 3, 63], [None, False, True])

    def test_none_is_passed(self):
        row = read_row("on a filter 0\non a filter 0")
        self.assertEqual(needless(row, ground=None, inked=None), [0, 1])

    def test_restricted_spots(self):
        row = read_row("all filter 0\nall bleach 1 inked")
        self.assertEqual(needless(row), [])
        self.assertEqual(needless(row, ground=Light(1), inked=True), [0, 1])
        self.assertEqual(needless(row, ground=Light(1)), [1])
        self.assertEqual(needless(row, ground=Light(0, 1), inked=True), [1])
        self.assertEqual(needless(read_row("all filter 0 bare"), inked=True), [0])

    def test_each_index_alone(self):
        row = read_row("on a opaque 1\non a opaque 1\naround a opaque 1\naround a filter 0")
        self.assertEqual(needless(row), [0, 1, 3])
        self.assertEqual(needless(Row()), [])
        self.assertEqual(needless(read_row("all filter - inked\non a filter 0")), [0])

    def test_rows_of_six_masks(self):
        for plan in one_colour_each(63, 2, NAMES[:5]):
            self.check_plan(plan, [0, None], [False])
            self.check_thinned(plan + plan[:1])
        six = one_colour_each(64, 1, NAMES[:6])[0]
        row = search.row_of(six)
        self.assertEqual(needless(row), [at for at in range(6) if plainest(row.without(at)) == plainest(row)])

    def test_long_rows(self):
        plan = [step(NAMES[at % 8], "filter", [at % 3]) for at in range(200)]
        row = search.row_of(plan)
        self.assertEqual(needless(row), list(range(200)))
        self.assertEqual(thinned(row), search.row_of(plan[-24:]))

    def test_thinned_by_hand(self):
        self.assertEqual(thinned(Row()), Row())
        self.assertEqual(thinned(read_row("all filter 0\nall filter 0")).told(), "all filter 0")
        row = read_row("all opaque 1\non a opaque 2\naround a opaque 3")
        self.assertEqual(thinned(row).told(), "on a opaque 2\naround a opaque 3")

    def test_a_needed_pass_may_become_needless(self):
        row = read_row("all filter -\nall bleach 0 bare\nall filter -")
        self.assertEqual(needless(row), [1, 2])
        self.assertEqual(thinned(row).told(), "all filter -")
        self.check_thinned([step(None, "filter", []), step(None, "bleach", [0], takes="bare"),
                            step(None, "filter", [])])

    def test_the_list_may_be_changed(self):
        row = read_row("on a filter 0\non a filter 0")
        needless(row).clear()
        self.assertEqual(needless(row), [0, 1])


class Joined(unittest.TestCase):
    """Point 40."""

    def joint_of(self, one, other):
        """The joint step by the words of point 40, or None."""
        if (one.mask, one.around, one.takes) != (other.mask, other.around, other.takes):
            return None
        if one.takes == "bare":
            return one
        off = other.off | (one.off & ~other.on)
        on = other.on | (one.on & ~other.off)
        return one._replace(kind="ink", off=off, on=on)

    def joined_of(self, plan, first, second):
        joint = self.joint_of(plan[first], plan[second])
        if joint is None:
            return None
        middle = plan[first + 1:second]
        late = plan[:first] + middle + [joint] + plan[second + 1:]
        early = plan[:first] + [joint] + middle + plan[second + 1:]
        for found in [late, early]:
            if search.print_alike(found, plan):
                return search.row_of(found)
        return None

    def check_plan(self, plan):
        """The answers for all pairs, each as None or the place of the joint pass."""
        row = search.row_of(plan)
        text = row.told()
        answers = []
        for first, second in itertools.combinations(range(len(plan)), 2):
            found = joined(row, first, second)
            wanted = self.joined_of(plan, first, second)
            self.assertEqual(found, wanted)
            if found is not None:
                self.assertIs(type(found), Row)
                self.assertEqual(found.told(), wanted.told())
            answers.append(found is not None)
        self.assertEqual(row.told(), text)
        return answers

    def test_rows_of_each_condition(self):
        answers = []
        for takes in ["any", "bare", "inked"]:
            for plan in search.some_plans(65, 60, 5, ["a"], bands=2, takes=[takes]):
                answers += self.check_plan(plan)
        self.assertGreater(min(answers.count(True), answers.count(False)), 50)

    def test_rows_of_all_conditions(self):
        for plan in search.some_plans(66, 60, 6, NAMES[:2], bands=1):
            self.check_plan(plan)

    def test_no_such_pass(self):
        row = read_row("on a filter 0\non a filter 1")
        wrong = [-HUGE, -2, -1, 2, 3, HUGE]
        for first, second in itertools.product(wrong, [*wrong, 0, 1]):
            with self.assertRaises(NoSuchPass) as caught:
                joined(row, first, second)
            self.assertEqual(caught.exception.number, first)
        for first, second in itertools.product([0, 1], wrong):
            with self.assertRaises(NoSuchPass) as caught:
                joined(row, first, second)
            self.assertEqual(caught.exception.number, second)
        with self.assertRaises(NoSuchPass):
            joined(Row(), 0, 0)

    def test_not_an_order(self):
        row = read_row("on a filter 0\non a filter 1\non b filter 2")
        for first, second in [(0, 0), (1, 0), (2, 2), (2, 1), (2, 0)]:
            with self.assertRaises(NotAnOrder):
                joined(row, first, second)

    def test_passes_that_differ(self):
        for other in ["on b filter 0", "around a filter 0", "all filter 0", "on a filter 0 bare", "on a filter 0 inked"]:
            for lines in [["on a filter 0", other], [other, "on a filter 0"]]:
                self.assertIsNone(joined(read_row("\n".join(lines)), 0, 1))

    def test_each_condition_by_hand(self):
        pairs = [
            ("on a filter 0\non a bleach 0.1", "on a ink - 0.1"),
            ("on a bleach 0.1\non a filter 0", "on a ink 0 1"),
            ("all opaque 1\nall opaque 2", "all opaque 2"),
            ("around a filter 0 inked\naround a bleach 1 inked", "around a ink 0 1 inked"),
            ("on a filter 0 bare\non a bleach 1 bare", "on a filter 0 bare"),
            ("on a opaque 0 bare\non a opaque 1 bare", "on a opaque 0 bare"),
        ]
        for text, wanted in pairs:
            row = joined(read_row(text), 0, 1)
            self.assertEqual(row, read_row(wanted))
        bare = joined(read_row(pairs[4][0]), 0, 1)
        self.assertEqual(bare.told(), "on a filter 0 bare")
        always = joined(read_row("all opaque 1\nall opaque 2"), 0, 1)
        self.assertEqual(always.told(), "all ink 0.1.3.4.5 2")
        self.assertIs(type(always[0].ink), Ink)

    def test_the_place_of_the_second_pass_comes_first(self):
        row = joined(read_row("on a filter 0\non b filter 1\non a filter 0.1"), 0, 2)
        self.assertEqual(row.told(), "on b filter 1\non a ink 0.1 -")

    def test_the_place_of_the_first_pass(self):
        row = joined(read_row("on a filter 0\non b bleach 0\non a filter 1"), 0, 2)
        self.assertEqual(row.told(), "on a ink 0.1 -\non b bleach 0")

    def test_neither_place(self):
        row = read_row("on a filter 0\non b ink 1 0\non a bleach 1")
        self.assertIsNone(joined(row, 0, 2))

    def test_other_passes_stay(self):
        row = Row(*[Pass("z", Filter(Light(at))) for at in range(3)], *read_row("on a filter 0\non a filter 0"),
                  *[Pass("z", Bleach(Light(at))) for at in range(3)])
        found = joined(row, 3, 4)
        self.assertEqual(found.passes[:3], row.passes[:3])
        self.assertEqual(found.passes[4:], row.passes[5:])
        self.assertEqual(len(found), 7)


if __name__ == "__main__":
    unittest.main()
