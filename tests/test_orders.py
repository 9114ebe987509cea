"""Points 41 to 44, and point 2 for them."""

import itertools
import random
import unittest

from laidink.errors import TooLong
from laidink.notation import read_row
from laidink.orders import ORDER_LIMIT, must_stay, orders, swaps
from laidink.rows import Row
from tests import search
from tests.search import NAMES, step


def orders_of(plan):
    """All orders that print alike, by the words of point 41."""
    names = search.masks_of(plan)
    whole = search.films_told(plan, names)
    return [order for order in itertools.permutations(range(len(plan)))
            if search.films_told([plan[at] for at in order], names) == whole]


def stays_of(plan):
    """The pairs of point 42."""
    found = orders_of(plan)
    return [(i, j) for i, j in itertools.combinations(range(len(plan)), 2)
            if all(order.index(i) < order.index(j) for order in found)]


def swaps_of(plan):
    """The indexes of point 44."""
    return [k for k in range(len(plan) - 1)
            if search.print_alike(plan[:k] + [plan[k + 1], plan[k]] + plan[k + 2:], plan)]


def clash(one, other):
    return bool(one.off & other.on or one.on & other.off)


class Examples(unittest.TestCase):
    def test_orders(self):
        row = read_row("on a filter 0\non b bleach 0\non c filter 1")
        found = [list(orders(row)), must_stay(row), swaps(row)]
        self.assertEqual(found, [[(0, 1, 2), (0, 2, 1), (2, 0, 1)], [(0, 1)], [1]])


class Orders(unittest.TestCase):
    """Points 41 and 42."""

    def check_plan(self, plan):
        row = search.row_of(plan)
        text = row.told()
        found = list(orders(row))
        self.assertEqual(found, orders_of(plan))
        self.assertEqual({type(order) for order in found}, {tuple})
        self.assertEqual(found, sorted(found))
        pairs = must_stay(row)
        self.assertIs(type(pairs), list)
        self.assertEqual(pairs, stays_of(plan))
        self.assertTrue(all(type(pair) is tuple for pair in pairs))
        self.assertEqual(row.told(), text)
        return len(found)

    def test_short_rows(self):
        counts = [self.check_plan(plan) for plan in search.some_plans(71, 80, 4, NAMES[:3], bands=2)]
        self.assertGreater(len(set(counts)), 4)

    def test_rows_in_which_much_may_move(self):
        for kinds in [["filter"], ["filter", "bleach"]]:
            for takes in [["any"], ["any", "inked"], ["bare"]]:
                for plan in search.some_plans(72, 6, 5, NAMES[:2], bands=1, kinds=kinds, takes=takes):
                    self.check_plan(plan)

    def test_rows_of_six_passes(self):
        dice = random.Random(73)
        for _ in range(2):
            self.check_plan(search.some_plan(dice, 6, NAMES[:2], bands=1))
        self.check_plan([step("a", "opaque", [0])] * 6)

    def test_rows_of_six_masks(self):
        row = search.row_of([step(name, "filter", [0]) for name in NAMES[:6]])
        self.assertEqual(list(orders(row)), list(itertools.permutations(range(6))))
        self.assertEqual(must_stay(row), [])
        row = search.row_of([step(name, "opaque", [at]) for at, name in enumerate(NAMES[:6])])
        self.assertEqual(list(orders(row)), [tuple(range(6))])
        self.assertEqual(must_stay(row), list(itertools.combinations(range(6), 2)))

    def test_no_pass_and_one(self):
        self.assertEqual(list(orders(Row())), [()])
        self.assertEqual(must_stay(Row()), [])
        row = read_row("around a opaque 2 bare")
        self.assertEqual(list(orders(row)), [(0,)])
        self.assertEqual(must_stay(row), [])

    def test_pairs_that_stay_although_they_may_be_swapped_alone(self):
        row = read_row("all filter 0\nall bleach 0\nall filter 0")
        self.assertEqual(list(orders(row)), [(0, 1, 2), (1, 0, 2), (1, 2, 0), (2, 1, 0)])
        self.assertEqual(must_stay(row), [])

    def test_too_long(self):
        self.assertEqual(ORDER_LIMIT, 6)
        for many in [7, 8, 200]:
            row = search.row_of([step("a", "filter", [0])] * many)
            found = orders(row)
            with self.assertRaises(TooLong) as caught:
                next(found)
            self.assertEqual(caught.exception.many, many)
            with self.assertRaises(TooLong) as caught:
                must_stay(row)
            self.assertEqual(caught.exception.many, many)
            self.assertEqual(len(row), many)

    def test_the_list_may_be_changed(self):
        row = read_row("on a filter 0\non b bleach 0")
        must_stay(row).clear()
        self.assertEqual(must_stay(row), [(0, 1)])
        self.assertEqual(list(orders(row)), [(0, 1)])


class Clashes(unittest.TestCase):
    """Point 43."""

    def test_different_masks_and_inks_that_take_always(self):
        dice = random.Random(74)
        for many in [2, 3, 4, 5, 5, 5, 6]:
            names = dice.sample(NAMES, many)
            plan = [search.some_step(dice, [name], bands=2, takes=["any"])._replace(
                mask=name, around=dice.random() < 0.5) for name in names]
            pairs = [(i, j) for i, j in itertools.combinations(range(many), 2) if clash(plan[i], plan[j])]
            wanted = [order for order in itertools.permutations(range(many))
                      if all(order.index(i) < order.index(j) for i, j in pairs)]
            row = search.row_of(plan)
            self.assertEqual(list(orders(row)), wanted)
            self.assertLessEqual(set(pairs), set(must_stay(row)))


class Swaps(unittest.TestCase):
    """Point 44."""

    def check_plan(self, plan):
        row = search.row_of(plan)
        text = row.told()
        found = swaps(row)
        self.assertIs(type(found), list)
        self.assertEqual(found, swaps_of(plan))
        self.assertEqual(row.told(), text)
        return len(found)

    def test_rows_of_some_passes(self):
        counts = [self.check_plan(plan) for plan in search.some_plans(75, 80, 9, NAMES[:2], bands=2)]
        self.assertGreater(len(set(counts)), 3)

    def test_no_pass_one_and_two(self):
        self.assertEqual(swaps(Row()), [])
        self.assertEqual(swaps(read_row("on a filter 0")), [])
        self.assertEqual(swaps(read_row("on a filter 0\non a filter 1")), [0])
        self.assertEqual(swaps(read_row("on a filter 0\non a bleach 0")), [])
        self.assertEqual(swaps(read_row("on a filter 0\naround a bleach 0")), [0])

    def test_seven_passes_and_more(self):
        self.assertEqual(self.check_plan([step(None, "filter", [at % 6]) for at in range(7)]), 6)
        plan = [step(NAMES[at % 8], "filter", [at % 6]) for at in range(200)]
        self.assertEqual(swaps(search.row_of(plan)), list(range(199)))

    def test_a_long_row_against_the_rows_themselves(self):
        dice = random.Random(76)
        plan = search.some_plan(dice, 200, NAMES[:8])
        row = search.row_of(plan)
        found = swaps(row)
        for k in [0, 1, 50, 120, 190, 195, 196, 197, 198]:
            other = plan[:k] + [plan[k + 1], plan[k]] + plan[k + 2:]
            alike = search.films_told(other, NAMES[:8]) == search.films_told(plan, NAMES[:8])
            self.assertIs(k in found, alike)

    def test_a_later_pass_may_hide_a_swap(self):
        row = read_row("on a filter 0\non a bleach 0\nall opaque 1")
        self.assertEqual(swaps(row), [0])

    def test_the_list_may_be_changed(self):
        row = read_row("on a filter 0\non b filter 1")
        swaps(row).append(5)
        self.assertEqual(swaps(row), [0])


if __name__ == "__main__":
    unittest.main()
