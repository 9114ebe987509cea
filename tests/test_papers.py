"""Points 32 and 33, and point 2 for papers."""

import itertools
import random
import unittest

from laidink.charts import Chart, chart_of
from laidink.errors import TooManyMasks
from laidink.light import Light
from laidink.notation import read_row
from laidink.papers import holds, paper_for
from laidink.rows import Row
from laidink.spots import Spot
from tests import search
from tests.search import NAMES, STARTS, step

WORDS = ["alike", "parted", "", "Alike", "ALIKE", "alike ", "Parted", "apart", "chart", "spot", "none"]


class Examples(unittest.TestCase):
    def test_alike(self):
        first = read_row("on a opaque 1\naround a opaque 1")
        second = read_row("all opaque 1")
        paper = paper_for(first, second)
        self.assertEqual([paper[0], paper[1].size, holds(first, second, paper)], ["alike", 1, True])


class Papers(unittest.TestCase):
    """Point 32."""

    def check_plans(self, first, second):
        one, other = search.row_of(first), search.row_of(second)
        texts = (one.told(), other.told())
        wanted = search.least_spot(first, second)
        for pair in [(one, other), (other, one)]:
            paper = paper_for(*pair)
            self.assertEqual([type(paper), len(paper)], [tuple, 2])
            if wanted is None:
                self.assertEqual(paper, ("alike", chart_of(one)))
                self.assertEqual(paper[1], chart_of(other))
                self.assertIs(type(paper[1]), Chart)
            else:
                self.assertEqual(paper[0], "parted")
                self.assertIs(type(paper[1]), Spot)
                self.assertEqual(search.spot_told(paper[1]), wanted)
            self.assertIs(holds(*pair, paper), True)
        self.assertEqual((one.told(), other.told()), texts)
        return wanted is None

    def test_papers_of_both_kinds(self):
        dice = random.Random(41)
        answers = []
        for plan in search.some_plans(41, 120, 6, NAMES[:3], bands=2):
            other = search.changed(dice, plan, NAMES[:3], bands=2)
            answers.append(self.check_plans(plan, other))
        self.assertGreater(min(answers.count(True), answers.count(False)), 20)

    def test_eight_masks_together(self):
        first = [step(name, "filter", [at % 3]) for at, name in enumerate(NAMES[:8])]
        self.assertIs(self.check_plans(first, first[::-1]), True)
        self.assertIs(self.check_plans(first[:4], first[4:]), False)
        every = [step(None, "opaque", [1])]
        self.assertIs(self.check_plans(first + every, every), True)
        dice = random.Random(42)
        plan = search.some_plan(dice, 200, NAMES[:8])
        self.assertIs(self.check_plans(plan, plan[:199]), False)

    def test_too_many_masks(self):
        first = search.row_of([step(name, "filter", [0]) for name in NAMES[:8]])
        second = read_row("on i filter 0\non j filter 0\non a filter 0")
        for one, other, many in [(first, second, 10), (second, first, 10), (first, second.without(1), 9)]:
            with self.assertRaises(TooManyMasks) as caught:
                paper_for(one, other)
            self.assertEqual(caught.exception.many, many)


class Holding(unittest.TestCase):
    """Point 33."""

    def check(self, first, second, paper, wanted):
        self.assertIs(holds(first, second, paper), wanted)
        self.assertIs(holds(second, first, paper), wanted)

    def test_every_spot(self):
        dice = random.Random(43)
        for plan in search.some_plans(43, 25, 5, NAMES[:2], bands=2):
            other = search.changed(dice, plan, NAMES[:2], bands=2)
            first, second = search.row_of(plan), search.row_of(other)
            for opened, ground, inked in itertools.product(search.all_sets(NAMES[:2]), [0, 1, 2, 3, 63], STARTS):
                spot = Spot(opened, Light.numbered(ground), inked)
                wanted = search.after(plan, opened, ground, inked) != search.after(other, opened, ground, inked)
                self.check(first, second, ("parted", spot), wanted)
                self.check(first, first, ("parted", spot), False)
                self.check(first, second, ("alike", spot), False)

    def test_a_spot_that_is_not_the_least(self):
        first, second = read_row("on a filter 0"), Row()
        self.check(first, second, ("parted", Spot(["a"], Light(), False)), True)
        self.check(first, second, ("parted", Spot(["a"], Light(0, 5), True)), True)
        self.check(first, second, ("parted", Spot(["a"], Light(5), True)), False)
        self.check(first, second, ("parted", Spot([], Light(0), False)), False)

    def test_spots_with_strange_names(self):
        first, second = read_row("on a filter 0"), read_row("around a filter 0 inked")
        strange = ["", "A", "seventh", "z", "\u00e9", "b", *[str(at) for at in range(50)]]
        self.check(first, second, ("parted", Spot(["a", *strange], Light(), False)), True)
        self.check(first, second, ("parted", Spot(strange, Light(), False)), False)
        self.check(first, second, ("parted", Spot(strange, Light(0), True)), True)

    def test_charts(self):
        first = read_row("on a opaque 1\naround a opaque 1")
        second = read_row("all opaque 1")
        third = read_row("on a opaque 1")
        chart = chart_of(second)
        self.check(first, second, ("alike", chart), True)
        self.check(first, second, ("alike", Chart.end(chart.leaf)), True)
        self.check(third, third, ("alike", chart_of(third)), True)
        for one in [chart, chart_of(third), chart_of(Row())]:
            self.check(first, third, ("alike", one), False)
            self.check(second, third, ("alike", one), False)
        self.check(first, second, ("alike", chart_of(third)), False)

    def test_charts_that_agree_but_are_not_plain(self):
        first = read_row("on a opaque 1\naround a opaque 1")
        second = read_row("all opaque 1")
        leaf = chart_of(second)
        for mask in ["a", "b", "", "seventh"]:
            self.check(first, second, ("alike", Chart.fork(mask, leaf, leaf)), False)
        row = read_row("on a filter 0\non b bleach 0")
        plain = chart_of(row)
        shut = Chart.fork("a", Chart.end(row.film_at([])), Chart.end(row.film_at(["a"])))
        other_way = Chart.fork("b", shut, Chart.fork("a", Chart.end(row.film_at(["b"])), Chart.end(row.film_at("ab"))))
        self.assertEqual([other_way.film_at(one) for one in search.all_sets("ab")],
                         [plain.film_at(one) for one in search.all_sets("ab")])
        self.check(row, row, ("alike", other_way), False)
        self.check(row, row, ("alike", plain), True)
        self.check(row, row, ("alike", Chart.fork("c", plain, plain)), False)

    def test_other_words_and_pairs(self):
        first, second = read_row("on a filter 0"), read_row("on a filter 1")
        spot = Spot(["a"], Light(0), False)
        chart = chart_of(first)
        for word in WORDS:
            self.check(first, second, (word, spot), word == "parted")
            self.check(first, first, (word, chart), word == "alike")
            self.check(first, second, (word, chart), False)
            self.check(first, first, (word, spot), False)
        for shown in [chart, chart_of(second), Chart.end(chart.film_at([]))]:
            self.check(first, second, ("parted", shown), False)
            self.check(first, first, ("parted", shown), False)

    def test_more_than_eight_masks_together(self):
        first = search.row_of([step(name, "filter", [0]) for name in NAMES[:8]])
        second = search.row_of([step(name, "filter", [0]) for name in NAMES[2:]])
        for opened in [[], ["a"], ["b", "i"], ["j"], NAMES]:
            alone = ("a" in opened or "b" in opened) != ("i" in opened or "j" in opened)
            middle = any(name in opened for name in NAMES[2:8])
            self.check(first, second, ("parted", Spot(opened, Light(0), True)), alone and not middle)
        for one in [first, second]:
            self.check(first, second, ("alike", chart_of(one)), False)
            self.check(first, second, ("none", chart_of(one)), False)
        every = read_row("all opaque 0")
        self.check(first + every, second + every, ("alike", chart_of(every)), True)
        self.check(first + every, second + every, ("parted", Spot(["a"], Light(0), False)), False)


if __name__ == "__main__":
    unittest.main()
