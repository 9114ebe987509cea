"""Points 28 to 31, and point 2 for charts."""

import itertools
import random
import unittest

from laidink.charts import Chart, chart_of
from laidink.films import Film
from laidink.inks import Bleach, Filter
from laidink.light import Light
from laidink.notation import read_row
from laidink.rows import Row
from laidink.spots import alike
from tests import search
from tests.search import NAMES

FILMS = [Filter(Light(band)).film() for band in range(4)]
STRANGE = ["", "A", "a ", "seventh", "x", "-", "0", "\u00e9", "all"]


def leaf(number):
    return Chart.end(FILMS[number])


def told(chart):
    """A chart as nested tuples with the effects of its films."""
    if chart.mask is None:
        return search.film_told(chart.leaf)
    return (chart.mask, told(chart.when_shut), told(chart.when_open))


def told_plain(plan, names, opened=()):
    """The plain chart of a plan, as told() tells it, by the words of point 30."""
    if not names:
        return search.effects(plan, opened)
    shut = told_plain(plan, names[1:], opened)
    is_open = told_plain(plan, names[1:], (*opened, names[0]))
    return shut if shut == is_open else (names[0], shut, is_open)


def charts_over(masks, depth):
    """Charts of up to this many forks on a path, of two films."""
    if depth == 0:
        return [leaf(0), leaf(1)]
    below = charts_over(masks, depth - 1)
    found = list(below)
    for mask in masks:
        found += [Chart.fork(mask, one, other) for one, other in itertools.product(below, repeat=2)]
    return found


class Examples(unittest.TestCase):
    def test_a_chart(self):
        chart = chart_of(read_row("on b filter 0\non a opaque 1"))
        answers = [chart.size, chart.mask, chart.when_shut.mask, chart.when_open.mask, chart.is_plain()]
        self.assertEqual(answers, [3, "a", "b", None, True])


class ByHand(unittest.TestCase):
    """Points 28 and 29."""

    def test_a_leaf(self):
        chart = leaf(1)
        self.assertIs(type(chart), Chart)
        self.assertEqual((chart.mask, chart.when_shut, chart.when_open), (None, None, None))
        self.assertIs(chart.leaf, FILMS[1])
        self.assertLessEqual({"mask", "leaf", "when_shut", "when_open"}, set(vars(chart)))
        self.assertEqual(chart.size, 1)
        self.assertEqual(list(chart.leaves()), [((), FILMS[1])])
        self.assertIs(chart.film_at([]), FILMS[1])
        self.assertIs(chart.film_at(("a", "b")), FILMS[1])

    def test_a_fork(self):
        shut, is_open = leaf(0), leaf(1)
        for mask in ["a", "sky", "", "A", "seventh", "a b", "\u00e9", " "]:
            chart = Chart.fork(mask, shut, is_open)
            self.assertIs(type(chart), Chart)
            self.assertEqual((chart.mask, chart.leaf), (mask, None))
            self.assertIs(chart.when_shut, shut)
            self.assertIs(chart.when_open, is_open)
            self.assertLessEqual({"mask", "leaf", "when_shut", "when_open"}, set(vars(chart)))
            self.assertEqual(chart.size, 2)
            wanted = [(((mask, False),), FILMS[0]), (((mask, True),), FILMS[1])]
            self.assertEqual(list(chart.leaves()), wanted)
            self.assertEqual(chart.film_at([]), FILMS[0])
            self.assertEqual(chart.film_at([mask]), FILMS[1])
            self.assertEqual(chart.film_at((mask, mask)), FILMS[1])
            self.assertEqual(chart.film_at([mask + "x", "x"]), FILMS[0])

    def test_leaves_and_their_paths(self):
        chart = Chart.fork("b", Chart.fork("a", leaf(0), leaf(1)), Chart.fork("A b", leaf(2), leaf(3)))
        wanted = [
            ((("b", False), ("a", False)), FILMS[0]),
            ((("b", False), ("a", True)), FILMS[1]),
            ((("b", True), ("A b", False)), FILMS[2]),
            ((("b", True), ("A b", True)), FILMS[3]),
        ]
        self.assertEqual(list(chart.leaves()), wanted)
        self.assertEqual(chart.size, 4)
        for path, _ in chart.leaves():
            self.assertEqual({type(path), type(path[0])}, {tuple})
            self.assertIs(type(path[0][1]), bool)

    def test_a_mask_twice_on_one_path(self):
        below = Chart.fork("a", leaf(1), leaf(2))
        chart = Chart.fork("a", below, Chart.fork("a", leaf(3), below))
        self.assertEqual(chart.size, 5)
        paths = [path for path, _ in chart.leaves()]
        wanted = [
            (("a", False), ("a", False)),
            (("a", False), ("a", True)),
            (("a", True), ("a", False)),
            (("a", True), ("a", True), ("a", False)),
            (("a", True), ("a", True), ("a", True)),
        ]
        self.assertEqual(paths, wanted)
        films = [film for _, film in chart.leaves()]
        self.assertEqual(films, [FILMS[1], FILMS[2], FILMS[3], FILMS[1], FILMS[2]])
        self.assertEqual(chart.film_at([]), FILMS[1])
        self.assertEqual(chart.film_at(["a"]), FILMS[2])
        self.assertIs(chart.is_plain(), False)

    def test_the_leaf_to_which_the_masks_lead(self):
        for chart in charts_over(["b", "a"], 2):
            leaves = list(chart.leaves())
            self.assertEqual(chart.size, len(leaves))
            for opened in search.all_sets(["a", "b"]):
                led = [film for path, film in leaves if all((mask in opened) is way for mask, way in path)]
                self.assertEqual(len(led), 1)
                for form in [opened, list(opened), opened[::-1], [*opened, *STRANGE, *opened]]:
                    kept = list(form)
                    self.assertEqual(chart.film_at(form), led[0])
                    self.assertEqual(list(form), kept)

    def test_deep_charts(self):
        chart = leaf(0)
        for depth in range(10):
            chart = Chart.fork(NAMES[9 - depth], chart, chart)
        self.assertEqual(chart.size, 1024)
        self.assertEqual(len(list(chart.leaves())), 1024)
        self.assertIs(chart.is_plain(), False)
        comb = leaf(0)
        for depth in range(10):
            comb = Chart.fork(NAMES[9 - depth], comb, leaf(1 + depth % 2))
        self.assertEqual((comb.size, comb.is_plain()), (11, True))
        self.assertIs(comb == chart, False)


class Plain(unittest.TestCase):
    """Point 30."""

    def test_masks_that_ascend(self):
        self.assertIs(leaf(0).is_plain(), True)
        self.assertIs(Chart.fork("b", leaf(0), leaf(1)).is_plain(), True)
        for mask, wanted in [("a", False), ("b", False), ("ba", True), ("c", True), ("", False), ("B", False)]:
            below = Chart.fork(mask, leaf(0), leaf(1))
            self.assertIs(Chart.fork("b", below, leaf(2)).is_plain(), wanted)
            self.assertIs(Chart.fork("b", leaf(2), below).is_plain(), wanted)
            deeper = Chart.fork("b", leaf(2), Chart.fork("bb", leaf(2), below))
            self.assertIs(deeper.is_plain(), mask == "c")
        self.assertIs(Chart.fork("", Chart.fork("A", leaf(0), leaf(1)), leaf(2)).is_plain(), True)

    def test_equal_charts(self):
        self.assertIs(Chart.fork("a", leaf(0), leaf(0)).is_plain(), False)
        self.assertIs(Chart.fork("a", leaf(0), Chart.end(Filter(Light(0)).film())).is_plain(), False)
        below = [Chart.fork("b", leaf(0), leaf(1)), Chart.fork("b", leaf(0), leaf(1))]
        self.assertIs(Chart.fork("a", *below).is_plain(), False)
        self.assertIs(Chart.fork("a", below[0], Chart.fork("b", leaf(1), leaf(0))).is_plain(), True)
        self.assertIs(Chart.fork("a", below[0], Chart.fork("b", leaf(0), leaf(0))).is_plain(), False)
        self.assertIs(Chart.fork("a", Chart.fork("b", leaf(0), leaf(0)), below[0]).is_plain(), False)

    def test_against_the_words(self):
        for chart in charts_over(["a", "b"], 2):
            ascends = all(
                list(masks) == sorted(set(masks))
                for masks in ([mask for mask, _ in path] for path, _ in chart.leaves())
            )
            self.assertIs(chart.is_plain(), ascends and not self.has_equal_charts(chart))

    def has_equal_charts(self, chart):
        if chart.mask is None:
            return False
        parts = [chart.when_shut, chart.when_open]
        return told(parts[0]) == told(parts[1]) or any(self.has_equal_charts(part) for part in parts)

    def test_equal(self):
        found = [(chart, told(chart)) for chart in charts_over(["a", "b"], 1)]
        found += [(chart, told(chart)) for chart in charts_over(["a", "b"], 2)[::17]]
        for (one, one_told), (other, other_told) in itertools.product(found, repeat=2):
            self.assertIs(one == other, one_told == other_told)
            self.assertIs(one != other, one_told != other_told)

    def test_equal_films_of_other_inks(self):
        film = Film.nothing() + Filter(Light(0)).film()
        self.assertIs(Chart.end(film) == leaf(0), True)
        self.assertIs(Chart.end(Bleach(Light(0)).film()) == leaf(0), False)

    def test_not_equal_to_what_is_no_chart(self):
        for chart in [leaf(0), Chart.fork("a", leaf(0), leaf(1))]:
            for value in [FILMS[0], FILMS[1], "a", None, (None, FILMS[0]), [], 0, True, Row()]:
                self.assertIs(chart == value, False)
                self.assertIs(value == chart, False)
                self.assertIs(chart != value, True)


class OfRows(unittest.TestCase):
    """Point 31."""

    def check_plan(self, plan):
        row = search.row_of(plan)
        text = row.told()
        chart = chart_of(row)
        self.assertIs(type(chart), Chart)
        self.assertIs(chart.is_plain(), True)
        self.assertEqual(told(chart), told_plain(plan, row.masks))
        for opened in search.all_sets(row.masks):
            self.assertEqual(chart.film_at(opened), row.film_at(opened))
        self.assertEqual(row.told(), text)
        return chart

    def test_short_rows(self):
        for plan in search.some_plans(31, 80, 6, NAMES[:3], bands=2):
            self.check_plan(plan)

    def test_rows_of_eight_masks(self):
        dice = random.Random(32)
        sizes = []
        for length in [8, 20, 200]:
            for takes in [["inked", "bare"], ["any", "any", "inked"]]:
                plan = search.some_plan(dice, length, NAMES[:8], takes=takes)
                sizes.append(self.check_plan(plan).size)
        self.assertGreater(max(sizes), 20)

    def test_all_masks_matter(self):
        plan = [search.step(name, "filter", [at % 6], around=at % 2 == 1) for at, name in enumerate(NAMES[:6])]
        self.assertEqual(self.check_plan(plan).size, 64)

    def test_leaves(self):
        self.assertEqual(chart_of(Row()), Chart.end(Film.nothing()))
        self.assertEqual(chart_of(read_row("on a opaque 1\naround a opaque 1")), chart_of(read_row("all opaque 1")))
        self.assertEqual(chart_of(read_row("on a filter 0 inked\nall opaque 1")).size, 1)
        self.assertEqual(chart_of(read_row("all filter 0 inked")).leaf, Filter(Light(0), takes="inked").film())

    def test_equal_exactly_for_rows_that_print_alike(self):
        dice = random.Random(33)
        answers = []
        for plan in search.some_plans(33, 150, 5, NAMES[:3], bands=1):
            other = search.changed(dice, plan, NAMES[:3], bands=1)
            one, two = search.row_of(plan), search.row_of(other)
            wanted = search.print_alike(plan, other)
            self.assertIs(chart_of(one) == chart_of(two), wanted)
            self.assertIs(alike(one, two), wanted)
            answers.append(wanted)
        self.assertGreater(min(answers.count(True), answers.count(False)), 30)

    def test_each_chart_is_a_new_one(self):
        row = read_row("on a filter 0")
        self.assertIsNot(chart_of(row), chart_of(row))
        chart = chart_of(row)
        paths = list(chart.leaves())
        paths.clear()
        self.assertEqual(len(list(chart.leaves())), 2)


if __name__ == "__main__":
    unittest.main()
