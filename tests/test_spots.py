"""Points 22 to 27, and point 2 for spots."""

import itertools
import random
import unittest

from laidink.errors import TooManyMasks
from laidink.light import Light
from laidink.notation import read_row
from laidink.rows import Row
from laidink.spots import Spot, alike, open_sets, parting
from tests import search
from tests.search import NAMES, STARTS, step


class Examples(unittest.TestCase):
    def test_open_sets(self):
        self.assertEqual(list(open_sets(["b", "a"])), [(), ("a",), ("b",), ("a", "b")])

    def test_parting(self):
        first = read_row("on a filter 0\non b bleach 0")
        second = read_row("on b bleach 0\non a filter 0")
        spot = parting(first, second)
        self.assertEqual([spot.opened, str(spot.ground), spot.inked], [("a", "b"), "-", False])

    def test_alike(self):
        first = read_row("on a filter 0\non b filter 0.1")
        second = read_row("on b filter 0.1\non a filter 0")
        self.assertEqual([alike(first, second), parting(first, second)], [True, None])


class OpenSets(unittest.TestCase):
    """Point 22."""

    def test_the_order(self):
        for many in range(9):
            found = list(open_sets(NAMES[:many][::-1]))
            self.assertEqual(found, search.all_sets(NAMES[:many]))
            self.assertEqual(len(found), 2 ** many)
            self.assertTrue(all(type(one) is tuple for one in found))

    def test_names_of_every_length(self):
        names = ["b", "ab", "zz", "a", "aaaaaa", "z"]
        self.assertEqual(list(open_sets(names)), search.all_sets(names))

    def test_tuples_duplicates_and_strange_names(self):
        names = ("b", "", "A", "b", "seventh", "A", "\u00e9")
        self.assertEqual(list(open_sets(names)), search.all_sets(names))
        self.assertEqual(list(open_sets(["a"] * 100)), [(), ("a",)])
        self.assertEqual(list(open_sets([])), [()])
        self.assertEqual(list(open_sets(())), [()])

    def test_the_list_stays_as_it_is(self):
        names = ["b", "a", "b"]
        list(open_sets(names))
        self.assertEqual(names, ["b", "a", "b"])

    def test_too_many_masks(self):
        for names, many in [(NAMES[:9], 9), (NAMES * 3, 10), ([str(at) for at in range(1000)], 1000)]:
            with self.assertRaises(TooManyMasks) as caught:
                list(open_sets(names))
            self.assertEqual(caught.exception.many, many)
        self.assertEqual(len(list(open_sets(NAMES[:8] * 5))), 256)

    def test_it_is_refused_when_it_is_iterated(self):
        sets = open_sets(NAMES)
        with self.assertRaises(TooManyMasks):
            next(sets)


class Spots(unittest.TestCase):
    """Points 2 and 23."""

    def test_attributes(self):
        for opened in [["b", "a", "b"], ("a", "b"), ["a", "b", "a", "a"]]:
            for inked in STARTS:
                spot = Spot(opened, Light(3), inked)
                self.assertEqual((spot.opened, spot.ground, spot.inked), (("a", "b"), Light(3), inked))
                self.assertIs(type(spot.opened), tuple)
                self.assertLessEqual({"opened", "ground", "inked"}, set(vars(spot)))
        self.assertEqual(Spot([], Light(), False).opened, ())

    def test_any_strings(self):
        names = ["seventh", "", "A", "b", "\u00e9", " ", "b"]
        self.assertEqual(Spot(names, Light(), False).opened, ("", " ", "A", "b", "seventh", "\u00e9"))
        self.assertEqual(len(Spot([str(at) for at in range(1000)], Light(), False).opened), 1000)

    def test_the_list_is_copied_and_stays_as_it_is(self):
        names = ["b", "a", "b"]
        spot = Spot(names, Light(), False)
        self.assertEqual(names, ["b", "a", "b"])
        names.append("c")
        self.assertEqual(spot.opened, ("a", "b"))

    def test_equal(self):
        found = list(itertools.product([(), ("a",), ("a", "b")], [0, 1, 63], STARTS))
        for one, other in itertools.product(found, repeat=2):
            pair = [Spot(opened, Light.numbered(ground), inked) for opened, ground, inked in (one, other)]
            self.assertIs(pair[0] == pair[1], one == other)
            self.assertIs(pair[0] != pair[1], one != other)
        self.assertEqual(Spot(["b", "a", "b"], Light(), True), Spot(("a", "b"), Light(), True))

    def test_not_equal_to_what_is_no_spot(self):
        spot = Spot(["a"], Light(1), False)
        for value in [(("a",), Light(1), False), ("a",), Light(1), None, False, "a", Row()]:
            self.assertIs(spot == value, False)
            self.assertIs(value == spot, False)
            self.assertIs(spot != value, True)


class Parting(unittest.TestCase):
    """Points 24 and 25."""

    def check_plans(self, first, second, ground=None, inked=None):
        one, other = search.row_of(first), search.row_of(second)
        told = (one.told(), other.told())
        wanted = search.least_spot(first, second, ground, inked)
        passed = {}
        if ground is not None:
            passed["ground"] = Light.numbered(ground)
        if inked is not None:
            passed["inked"] = inked
        for pair in [(one, other), (other, one)]:
            spot = parting(*pair, **passed)
            self.assertEqual(search.spot_told(spot), wanted)
            self.assertIs(alike(*pair, **passed), wanted is None)
            if spot is not None:
                self.assertEqual([type(spot), type(spot.opened)], [Spot, tuple])
                self.assertEqual([type(spot.ground), type(spot.inked)], [Light, bool])
        self.assertEqual((one.told(), other.told()), told)
        return wanted

    def some_pairs(self, seed, many, length, names, **more):
        """Pairs of plans of which many print alike or differ at few spots."""
        dice = random.Random(seed)
        pairs = []
        for plan in search.some_plans(seed, many, length, names, **more):
            other = plan
            for _ in range(dice.randrange(1, 3)):
                other = search.changed(dice, other, names, **more)
            pairs.append((plan, other))
        return pairs

    def test_against_a_search_over_all_spots(self):
        answers = []
        for first, second in self.some_pairs(21, 150, 6, NAMES[:3], bands=3):
            answers.append(self.check_plans(first, second))
        kinds = {answer if answer is None else (len(answer[0]), answer[2]) for answer in answers}
        self.assertGreaterEqual(len(kinds), 5)

    def test_with_a_ground_and_a_start(self):
        answers = []
        for first, second in self.some_pairs(22, 40, 5, NAMES[:2], bands=2):
            for ground, inked in itertools.product([None, 0, 1, 2, 3, 63, 40], [None, False, True]):
                answers.append(self.check_plans(first, second, ground, inked))
        self.assertIn(None, answers)
        self.assertTrue(any(one is not None and one[2] for one in answers))

    def test_arguments_that_are_none(self):
        first, second = read_row("all filter 0 inked"), Row()
        spot = parting(first, second, ground=None, inked=None)
        self.assertEqual(search.spot_told(spot), ((), 1, True))
        self.assertEqual(search.spot_told(parting(first, second)), ((), 1, True))
        self.assertIs(alike(first, second, ground=None, inked=None), False)

    def test_each_ground_alone(self):
        first = [step("a", "ink", [0, 3], [1]), step("b", "filter", [5], takes="inked")]
        second = [step("a", "ink", [0], [1, 3])]
        for ground in range(64):
            for inked in [None, False, True]:
                self.check_plans(first, second, ground, inked)

    def test_the_least_ground_is_in_the_order_of_point_6(self):
        pairs = [
            ("all filter 4", "all filter -", ((), 16, False)),
            ("all filter 2.5", "all filter -", ((), 4, False)),
            ("all bleach 2.5", "all filter -", ((), 0, False)),
            ("all opaque 5", "all filter 0.1.2.3.4", ((), 0, False)),
            ("all filter 0", "all filter 1", ((), 1, False)),
            ("all filter 1", "all bleach 0", ((), 0, False)),
            ("all filter -", "", ((), 0, False)),
            ("all filter 3 inked", "", ((), 8, True)),
            ("on a filter 3\naround a bleach 1 inked", "on a filter 3", ((), 0, True)),
            ("around a filter 0", "all filter 0", (("a",), 0, False)),
        ]
        for first, second, wanted in pairs:
            for one, other in [(first, second), (second, first)]:
                self.assertEqual(search.spot_told(parting(read_row(one), read_row(other))), wanted)

    def test_a_smaller_set_comes_before_a_bare_start(self):
        first = read_row("on b filter 0 inked\non a bleach 1 inked\non a bleach 2\non b bleach 2")
        second = read_row("on a bleach 2\non b bleach 2")
        self.assertEqual(search.spot_told(parting(first, second)), (("a",), 0, True))

    def test_a_bare_start_comes_before_a_smaller_ground(self):
        first = read_row("all filter 4.5 bare\nall bleach 1 inked")
        second = read_row("all filter - bare\nall bleach 1 inked\nall filter -")
        third = read_row("all filter - bare\nall filter - inked")
        self.assertEqual(search.spot_told(parting(first, second)), ((), 16, False))
        self.assertEqual(search.spot_told(parting(first, third)), ((), 0, False))
        self.assertEqual(search.spot_told(parting(first, second, ground=Light())), None)
        lone = read_row("all filter - bare\nall filter 4 inked\nall bleach 0 inked")
        other = read_row("all filter - bare\nall bleach 0 inked")
        self.assertEqual(search.spot_told(parting(lone, other)), ((), 16, False))

    def test_masks_of_one_row_alone(self):
        self.check_plans([step("a", "filter", [0])], [step("b", "filter", [0])])
        self.check_plans([], [step("b", "filter", [0], around=True)])
        self.check_plans([], [])
        self.check_plans([step("a", "filter", [0])], [])
        every = [step("a", "opaque", [1]), step("a", "opaque", [1], around=True)]
        self.assertIsNone(self.check_plans(every, [step(None, "opaque", [1])]))

    def test_eight_masks_together(self):
        dice = random.Random(23)
        first = search.some_plan(dice, 40, NAMES[:5], bands=2)
        second = first + [step(name, "filter", [0, 1], takes="inked") for name in NAMES[:8]]
        self.check_plans(first, second, 3, None)
        deep = [step(None, "filter", [])]
        deep += [step(name, "filter", [0], around=True) for name in NAMES[:8]]
        self.assertEqual(
            self.check_plans(deep, deep + [step(None, "filter", [0])], 1),
            (tuple(NAMES[:8]), 1, False),
        )

    def test_long_rows_of_eight_masks(self):
        dice = random.Random(24)
        first = search.some_plan(dice, 200, NAMES[:8])
        second = first[:100] + search.some_plan(dice, 1, NAMES[:8]) + first[101:]
        for other in [list(first), second, search.some_plan(dice, 200, NAMES[:8])]:
            self.check_plans(first, other, 21, False)
        self.assertIs(alike(search.row_of(first), search.row_of(first)), True)

    def test_nine_masks_together(self):
        first = search.row_of([step(name, "filter", [0]) for name in NAMES[:5]])
        second = search.row_of([step(name, "filter", [0]) for name in NAMES[4:9]])
        third = search.row_of([step(name, "filter", [0]) for name in NAMES[4:]])
        eight = search.row_of([step(name, "filter", [0]) for name in NAMES[:8]])
        wanted = [(first, second, 9), (first, third, 10), (eight, read_row("on z filter 0"), 9)]
        for one, other, many in wanted:
            for pair in [(one, other), (other, one)]:
                for ask in [parting, alike]:
                    for passed in [{}, {"ground": Light(), "inked": True}]:
                        with self.assertRaises(TooManyMasks) as caught:
                            ask(*pair, **passed)
                        self.assertEqual(caught.exception.many, many)


class Replacing(unittest.TestCase):
    """Points 26 and 27."""

    def test_rows_that_print_alike_replace_each_other(self):
        dice = random.Random(25)
        pairs = 0
        for plan in search.some_plans(25, 200, 4, NAMES[:2], bands=1):
            other = search.changed(dice, plan, NAMES[:2], bands=1)
            first, second = search.row_of(plan), search.row_of(other)
            if alike(first, second) and first != second:
                pairs += 1
                for _ in range(5):
                    before = search.row_of(search.some_plan(dice, 3, NAMES[:3], bands=2))
                    after = search.row_of(search.some_plan(dice, 3, NAMES[:3], bands=2))
                    self.assertIs(alike(before + first + after, before + second + after), True)
        self.assertGreater(pairs, 20)

    def test_few_open_masks_part_rows_without_around(self):
        sizes = {"any": set(), "each": set()}
        dice = random.Random(26)
        for word, takes in [("any", ["any"]), ("each", ["any", "bare", "inked"])]:
            for plan in search.some_plans(26, 300, 9, NAMES[:7], bands=1, takes=takes, sides=[False]):
                other = search.changed(dice, plan, NAMES[:7], bands=1, takes=takes, sides=[False])
                spot = parting(search.row_of(plan), search.row_of(other))
                if spot is not None:
                    sizes[word].add(len(spot.opened))
        self.assertLessEqual(max(sizes["any"]), 2)
        self.assertLessEqual(max(sizes["each"]), 4)
        self.assertIn(2, sizes["any"])

    def test_three_open_masks(self):
        first = "on a filter - bare\non b bleach 0 inked\non c filter 0 inked\non d bleach 0 inked"
        second = "on a filter - bare\non c filter 0 inked\non b bleach 0 inked\non d bleach 0 inked"
        spot = parting(read_row(first), read_row(second), inked=False)
        self.assertEqual(spot.opened, ("a", "b", "c"))
        first = "on c filter 0 bare\non a opaque - inked\non b bleach 0\non a opaque - bare\non b bleach - inked"
        second = "on b bleach - inked\non a opaque - inked\non b bleach 0\non a opaque - bare\non c filter 0 bare"
        spot = parting(read_row(first), read_row(second))
        self.assertEqual(search.spot_told(spot), (("a", "b", "c"), 2, False))

    def test_around_a_mask_more_open_masks_may_be_needed(self):
        lines = [f"around {name} filter -" for name in NAMES[:6]]
        spot = parting(read_row("\n".join(lines)), read_row("all filter -"))
        self.assertEqual(search.spot_told(spot), (tuple(NAMES[:6]), 0, False))


if __name__ == "__main__":
    unittest.main()
