"""Points 48 and 49, and point 2 for them."""

import itertools
import random
import unittest

from laidink.errors import NoSuchPass, TooLong
from laidink.light import Light
from laidink.notation import read_row
from laidink.pulls import PULL_LIMIT, confused, fewest_pulls
from laidink.rows import Row
from tests import search
from tests.search import NAMES, STARTS, step

HUGE = 10 ** 999


def confused_of(plan, ground, moments, inked):
    """The first pair by the words of point 48."""
    sets = search.all_sets(search.masks_of(plan))
    views = []
    for opened in sets:
        states = search.states(plan, opened, ground, inked)
        views.append([states[moment][0] for moment in moments])
    for one, other in itertools.combinations(range(len(sets)), 2):
        if views[one] == views[other]:
            return (sets[one], sets[other])
    return None


def fewest_pulls_of(plan, ground, inked):
    """The moments by the words of point 49."""
    for size in range(len(plan) + 2):
        for moments in itertools.combinations(range(len(plan) + 1), size):
            if confused_of(plan, ground, moments, inked) is None:
                return moments
    return None


def one_pass_each(dice, many, **more):
    """A plan in which each mask is printed once, so that much can be told."""
    names = dice.sample(NAMES[:8], many)
    return [search.some_step(dice, [name], **more)._replace(mask=name) for name in names]


class Examples(unittest.TestCase):
    def test_confused_and_fewest_pulls(self):
        row = read_row("on a filter 0\non b opaque 2")
        found = [confused(row, Light(0), [2]), fewest_pulls(row, Light(0))]
        self.assertEqual(found, [(("b",), ("a", "b")), (1, 2)])


class Confused(unittest.TestCase):
    """Point 48."""

    def check(self, plan, ground, moments, inked):
        row = search.row_of(plan)
        text = row.told()
        kept = list(moments)
        found = confused(row, Light.numbered(ground), moments, inked=inked)
        self.assertEqual(found, confused_of(plan, ground, moments, inked))
        self.assertEqual(list(moments), kept)
        self.assertEqual(row.told(), text)
        if found is not None:
            self.assertEqual([type(found), type(found[0]), type(found[1])], [tuple] * 3)
        return found

    def test_some_moments(self):
        dice = random.Random(91)
        answers = []
        for plan in search.some_plans(91, 40, 6, NAMES[:3], bands=3) + [one_pass_each(dice, 3) for _ in range(80)]:
            moments = [dice.randrange(len(plan) + 1) for _ in range(dice.randrange(6))]
            kind = dice.choice([list, tuple])
            for inked in STARTS:
                answers.append(self.check(plan, dice.randrange(64), kind(moments), inked))
        self.assertGreater(answers.count(None), 15)
        self.assertGreater(len(set(answers)), 8)

    def test_any_order_and_duplicates(self):
        row = read_row("on a filter 0\non b opaque 2\non c bleach 4")
        for moments in itertools.product(range(4), repeat=3):
            wanted = confused(row, Light(0), sorted(set(moments)))
            self.assertEqual(confused(row, Light(0), list(moments)), wanted)
            self.assertEqual(confused(row, Light(0), moments * 20), wanted)
        self.assertIsNone(confused(row, Light(0), [2, 3, 1, 3]))

    def test_without_moments_all_sets_look_alike(self):
        row = read_row("on b filter 0\non a filter 1")
        for moments in [[], (), [0], (0, 0)]:
            self.assertEqual(confused(row, Light(0, 1), moments), ((), ("a",)))
        for row in [Row(), read_row("all filter 0\nall bleach 3")]:
            self.assertIsNone(confused(row, Light(0), []))
            self.assertIsNone(confused(row, Light(0), [0]))

    def test_the_first_pair(self):
        row = read_row("on a filter 0\non b filter 1\naround c filter 2\non a filter 2")
        self.assertEqual(confused(row, Light.white(), [1]), ((), ("b",)))
        self.assertEqual(confused(row, Light.white(), [1, 2]), ((), ("c",)))
        self.assertEqual(confused(row, Light.white(), [4]), (("a",), ("a", "c")))
        self.assertIsNone(confused(row, Light.white(), [4, 3]))

    def test_the_least_first_set_comes_before_the_least_second_one(self):
        row = read_row("on a opaque 0\non b filter 0 inked\non b opaque 0 bare")
        told = [str(row.print_at(opened, Light())[0]) for opened in [(), ("a",), ("b",), ("a", "b")]]
        self.assertEqual(told, ["-", "0", "0", "-"])
        self.assertEqual(confused(row, Light(), [3]), ((), ("a", "b")))

    def test_inked_left_out_is_bare(self):
        row = read_row("on a filter 0 bare\non b filter 1 inked")
        white = Light.white()
        self.assertEqual(confused(row, white, [2]), ((), ("b",)))
        self.assertEqual(confused(row, white, [2], inked=False), ((), ("b",)))
        self.assertEqual(confused(row, white, [2], inked=True), ((), ("a",)))

    def test_no_such_pass(self):
        row = read_row("on a filter 0\non b filter 1")
        for wrong in [-HUGE, -3, -1, 3, 4, HUGE]:
            for moments in [[wrong], (wrong,), [0, 1, 2, wrong, -7], [2, wrong, 9], [wrong, -1, 3]]:
                with self.assertRaises(NoSuchPass) as caught:
                    confused(row, Light(0), moments)
                self.assertEqual(caught.exception.number, wrong)
        for moment in [-1, 1]:
            with self.assertRaises(NoSuchPass) as caught:
                confused(Row(), Light(), [0, moment])
            self.assertEqual(caught.exception.number, moment)

    def test_long_rows(self):
        dice = random.Random(92)
        plan = search.some_plan(dice, 200, NAMES[:8], kinds=["ink", "filter"])
        for moments in [[200], [3, 1, 2], list(range(201)), (200, 150, 0), [5, 100, 7, 200]]:
            self.check(plan, 63, moments, dice.choice(STARTS))
        plan = [step(NAMES[at // 25], "ink", [at % 2], [1 - at % 2]) for at in range(200)]
        self.assertIsNone(self.check(plan, 60, range(1, 201), False))


class FewestPulls(unittest.TestCase):
    """Point 49."""

    def check(self, plan, ground, inked):
        row = search.row_of(plan)
        text = row.told()
        found = fewest_pulls(row, Light.numbered(ground), inked=inked)
        self.assertEqual(found, fewest_pulls_of(plan, ground, inked))
        self.assertIn(type(found), [tuple, type(None)])
        self.assertEqual(row.told(), text)
        return found

    def test_against_a_search(self):
        dice = random.Random(93)
        answers = []
        for many in [1, 2, 3, 3, 4, 4] * 12:
            plan = one_pass_each(dice, many, takes=["any", "any", "inked"])
            plan = plan + search.some_plan(dice, dice.randrange(3), search.masks_of(plan))
            answers.append(self.check(plan, dice.randrange(64), dice.choice(STARTS)))
        self.assertGreater(answers.count(None), 5)
        self.assertGreater(len(set(answers)), 8)

    def test_the_fewest_and_of_these_the_least(self):
        row = read_row("on a filter 0\non b opaque 2\non a filter 3")
        self.assertEqual(fewest_pulls(row, Light(0)), (1, 2))
        self.assertEqual(fewest_pulls(row, Light(0, 3)), (1, 2))
        row = read_row("all filter -\non a filter 0\nall filter -\non b filter 1\nall filter -")
        self.assertEqual(fewest_pulls(row, Light(0, 1)), (4,))
        self.assertIsNone(fewest_pulls(row, Light(0)))

    def test_rows_without_masks(self):
        for row in [Row(), read_row("all filter 0\nall bleach 1 bare")]:
            for inked in STARTS:
                self.assertEqual(fewest_pulls(row, Light(0), inked=inked), ())

    def test_none(self):
        self.assertIsNone(fewest_pulls(read_row("on a filter 0"), Light(1)))
        self.assertIsNone(fewest_pulls(read_row("on a filter 0\nall filter 0"), Light(1)))
        self.assertEqual(fewest_pulls(read_row("on a filter 0\nall filter 0"), Light(0)), (1,))

    def test_inked_left_out_is_bare(self):
        row = read_row("on a filter 0 bare")
        self.assertEqual(fewest_pulls(row, Light(0)), (1,))
        self.assertEqual(fewest_pulls(row, Light(0), inked=False), (1,))
        self.assertIsNone(fewest_pulls(row, Light(0), inked=True))

    def test_eight_passes(self):
        row = search.row_of([step(name, "opaque", [at]) for at, name in enumerate(NAMES[:6])])
        self.assertEqual(fewest_pulls(row, Light()), (1, 2, 3, 4, 5, 6))
        row = search.row_of([step(name, "opaque", [at // 4, 2 + at % 4]) for at, name in enumerate(NAMES[:8])])
        self.assertEqual(fewest_pulls(row, Light()), (1, 2, 3, 4, 5, 6, 7, 8))
        row = search.row_of([step(name, "filter", [at % 6]) for at, name in enumerate(NAMES[:8])])
        self.assertIsNone(fewest_pulls(row, Light.white()))
        plan = [step(name, "ink", [at % 5], [(at + 1) % 5]) for at, name in enumerate(NAMES[:4] * 2)]
        self.check(plan, 31, False)

    def test_too_long(self):
        self.assertEqual(PULL_LIMIT, 8)
        for many in [9, 10, 200]:
            for mask in [None, "a"]:
                row = search.row_of([step(mask, "filter", [0])] * many)
                with self.assertRaises(TooLong) as caught:
                    fewest_pulls(row, Light(0))
                self.assertEqual(caught.exception.many, many)
        self.assertEqual(fewest_pulls(search.row_of([step("a", "filter", [0])] * 8), Light(0)), (1,))


if __name__ == "__main__":
    unittest.main()
