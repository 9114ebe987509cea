"""Points 50 and 51, and point 2 for them."""

import random
import unittest

from laidink.errors import NoSuchPass, TooLong
from laidink.faults import all_faults, faults_told, faulty, silent_faults
from laidink.light import Light
from laidink.notation import read_row
from laidink.rows import Row
from tests import search
from tests.search import COLOURS, NAMES, STARTS, step

HUGE = 10 ** 999
KINDS = ["left out", "again", "swapped"]


def faults_of(many):
    """Every fault of a row of so many passes."""
    return [(kind, k) for kind in KINDS for k in range(many - 1 if kind == "swapped" else many)]


def faulty_plan(plan, fault):
    """The plan that is printed with the fault, by the words of point 50."""
    kind, k = fault
    if kind == "left out":
        return plan[:k] + plan[k + 1:]
    if kind == "again":
        return plan + [plan[k]]
    return plan[:k] + [plan[k + 1], plan[k]] + plan[k + 2:]


def silent_of(plan):
    return [fault for fault in faults_of(len(plan)) if search.print_alike(faulty_plan(plan, fault), plan)]


def told_of(plan, ground, opened, seen, inked):
    """What explains the colour, by the words of point 51."""
    found = []
    for fault in [("sound", -1), *faults_of(len(plan))]:
        printed = plan if fault == ("sound", -1) else faulty_plan(plan, fault)
        if search.shown(printed, opened, ground, inked) == seen:
            found.append(fault)
    return found


class Examples(unittest.TestCase):
    def test_silent_faults(self):
        found = silent_faults(read_row("on a filter 0\non b filter 0.1"))
        self.assertEqual(found, [("again", 0), ("again", 1), ("swapped", 0)])

    def test_faults_told(self):
        found = faults_told(read_row("on a filter 0\non b bleach 0"), Light(1), ["a", "b"], Light(1))
        self.assertEqual(found, [("left out", 1), ("again", 0), ("swapped", 0)])


class Faults(unittest.TestCase):
    """Point 50: the faults and the rows that are printed with them."""

    def test_every_fault_in_order(self):
        self.assertEqual(list(all_faults(Row())), [])
        self.assertEqual(list(all_faults(read_row("on a filter 0"))), [("left out", 0), ("again", 0)])
        self.assertEqual(list(all_faults(read_row("on a filter 0\nall filter 1"))),
                         [("left out", 0), ("left out", 1), ("again", 0), ("again", 1), ("swapped", 0)])
        for many in [3, 7, 199, 200]:
            row = search.row_of([step("a", "filter", [0])] * many)
            found = list(all_faults(row))
            self.assertEqual(found, faults_of(many))
            self.assertEqual({type(fault) for fault in found}, {tuple})

    def test_the_rows_with_every_fault(self):
        for plan in search.some_plans(101, 60, 6, NAMES):
            row = search.row_of(plan)
            text = row.told()
            for fault in faults_of(len(plan)):
                found = faulty(row, fault)
                self.assertIs(type(found), Row)
                self.assertEqual(found.told(), search.row_of(faulty_plan(plan, fault)).told())
            self.assertEqual(row.told(), text)

    def test_one_pass(self):
        row = read_row("on a filter 0")
        self.assertEqual(faulty(row, ("left out", 0)), Row())
        self.assertEqual(faulty(row, ("again", 0)).told(), "on a filter 0\non a filter 0")

    def test_no_such_pass(self):
        for many in [0, 1, 2, 5, 199, 200]:
            row = search.row_of([step("a", "filter", [0])] * many)
            wrong = [-HUGE, -many - 1, -many, -2, -1, many, many + 1, HUGE]
            for kind in KINDS:
                for k in [*wrong, many - 1] if kind == "swapped" else wrong:
                    if kind == "swapped" or not 0 <= k < many:
                        with self.assertRaises(NoSuchPass, msg=(many, kind, k)) as caught:
                            faulty(row, (kind, k))
                        self.assertEqual(caught.exception.number, k)

    def test_too_long(self):
        plan = [step(NAMES[at % 8], "filter", [at % 6]) for at in range(200)]
        row = search.row_of(plan)
        for k in [0, 1, 100, 199]:
            with self.assertRaises(TooLong) as caught:
                faulty(row, ("again", k))
            self.assertEqual(caught.exception.many, 201)
            self.assertEqual(len(faulty(row, ("left out", k))), 199)
        for k in [0, 1, 100, 198]:
            self.assertEqual(faulty(row, ("swapped", k)), search.row_of(faulty_plan(plan, ("swapped", k))))
        self.assertEqual(len(faulty(row.without(5), ("again", 198))), 200)


class Silent(unittest.TestCase):
    """Point 50: the faults that nobody sees."""

    def check_plan(self, plan):
        row = search.row_of(plan)
        text = row.told()
        found = silent_faults(row)
        self.assertIs(type(found), list)
        self.assertEqual(found, silent_of(plan))
        self.assertEqual(row.told(), text)
        return [kind for kind, _ in found]

    def test_against_a_search(self):
        kinds = []
        for plan in search.some_plans(102, 90, 6, NAMES[:2], bands=2):
            kinds += self.check_plan(plan)
        self.assertGreater(min(kinds.count(kind) for kind in KINDS), 20)

    def test_no_pass_and_one(self):
        self.assertEqual(silent_faults(Row()), [])
        self.assertEqual(silent_faults(read_row("on a filter 0")), [("again", 0)])
        self.assertEqual(silent_faults(read_row("on a filter 0 bare")), [("again", 0)])
        self.assertEqual(silent_faults(read_row("on a filter - inked")), [("left out", 0), ("again", 0)])

    def test_two_passes(self):
        self.assertEqual(silent_faults(read_row("on a filter 0\non a bleach 0")),
                         [("left out", 0), ("again", 1)])
        self.assertEqual(silent_faults(read_row("all filter 0 bare\nall bleach 0 inked")),
                         [("again", 0), ("again", 1)])

    def test_long_rows(self):
        plan = [step(NAMES[at % 8], "filter", [at % 6]) for at in range(199)]
        self.assertEqual(silent_faults(search.row_of(plan)), faults_of(199))
        dice = random.Random(103)
        plan = search.some_plan(dice, 199, NAMES[:8])
        found = silent_faults(search.row_of(plan))
        whole = search.films_told(plan, NAMES[:8])
        for k in [0, 100, 190, 195, 196, 197, 198]:
            for fault in [("left out", k), ("again", k), ("swapped", min(k, 197))]:
                alike = search.films_told(faulty_plan(plan, fault), NAMES[:8]) == whole
                self.assertIs(fault in found, alike)

    def test_too_long(self):
        for mask in [None, "a"]:
            row = search.row_of([step(mask, "filter", [0])] * 200)
            with self.assertRaises(TooLong) as caught:
                silent_faults(row)
            self.assertEqual(caught.exception.many, 201)
            self.assertEqual(len(silent_faults(row.without(0))), 199 + 199 + 198)

    def test_the_list_may_be_changed(self):
        row = read_row("on a filter 0")
        silent_faults(row).clear()
        self.assertEqual(silent_faults(row), [("again", 0)])


class Told(unittest.TestCase):
    """Point 51."""

    def check(self, plan, ground, opened, seen, inked):
        row = search.row_of(plan)
        text, kept = row.told(), list(opened)
        found = faults_told(row, Light.numbered(ground), opened, Light.numbered(seen), inked=inked)
        self.assertIs(type(found), list)
        self.assertTrue(all(type(one) is tuple for one in found))
        self.assertEqual(found, told_of(plan, ground, opened, seen, inked))
        self.assertEqual((row.told(), list(opened)), (text, kept))
        return found

    def test_every_colour_of_some_rows(self):
        dice = random.Random(104)
        for plan in search.some_plans(104, 12, 6, NAMES[:3]):
            ground = dice.randrange(64)
            for opened in search.all_sets(NAMES[:3]):
                answers = [self.check(plan, ground, opened, seen, False) for seen in COLOURS]
                self.assertEqual(sum(("sound", -1) in one for one in answers), 1)

    def test_both_starts(self):
        dice = random.Random(105)
        counts = []
        for plan in search.some_plans(105, 60, 7, NAMES[:2], bands=2):
            for inked in STARTS:
                opened = dice.choice(search.all_sets(NAMES[:2]))
                counts += [len(self.check(plan, 60, opened, 60 | seen, inked)) for seen in range(4)]
        self.assertGreater(len(set(counts)), 10)

    def test_sound_and_nothing(self):
        self.assertEqual(faults_told(Row(), Light(1), [], Light(1)), [("sound", -1)])
        self.assertEqual(faults_told(Row(), Light(1), ["a"], Light()), [])
        row = read_row("on a filter 0")
        self.assertEqual(faults_told(row, Light(0), ["a"], Light()), [("sound", -1), ("again", 0)])
        self.assertEqual(faults_told(row, Light(0), ["a"], Light(0)), [("left out", 0)])
        self.assertEqual(faults_told(row, Light(0), [], Light(0)), [("sound", -1), ("left out", 0), ("again", 0)])
        self.assertEqual(faults_told(row, Light(0), [], Light(3)), [])

    def test_inked_left_out_is_bare(self):
        row = read_row("all filter 0 bare")
        self.assertEqual(faults_told(row, Light(0), [], Light()), [("sound", -1), ("again", 0)])
        self.assertEqual(faults_told(row, Light(0), [], Light(), inked=False), [("sound", -1), ("again", 0)])
        self.assertEqual(faults_told(row, Light(0), [], Light(), inked=True), [])

    def test_strange_names(self):
        plan = [step("a", "filter", [0]), step("b", "bleach", [0]), step("c", "filter", [1], around=True)]
        strange = ["", "A", "seventh", "z", "\u00e9", "b ", "ab", *[str(at) for at in range(300)]]
        for names in search.all_sets(NAMES[:3]):
            for opened in [[*strange, *names, *names], (*names[::-1], *strange, *names), list(names), names]:
                for seen in range(4):
                    self.check(plan, 3, opened, seen, False)

    def test_long_rows(self):
        dice = random.Random(106)
        plan = search.some_plan(dice, 199, NAMES[:8])
        for opened in [[], ["b", "h"], ("c", "a", "a", "none"), NAMES]:
            for inked in STARTS:
                seen = search.shown(plan, opened, 44, inked)
                self.check(plan, 44, opened, seen, inked)
                self.check(plan, 44, opened, seen ^ 1, inked)

    def test_too_long(self):
        row = search.row_of([step("a", "filter", [0])] * 200)
        for opened in [[], ["a"], ("b",)]:
            for seen in [Light(), Light(0), Light(5)]:
                with self.assertRaises(TooLong) as caught:
                    faults_told(row, Light(0), opened, seen)
                self.assertEqual(caught.exception.many, 201)
        self.assertEqual(len(faults_told(row.without(3), Light(0), [], Light(0))), 1 + 199 + 199 + 198)

    def test_the_list_may_be_changed(self):
        row = read_row("on a filter 0")
        faults_told(row, Light(0), ["a"], Light(0)).clear()
        self.assertEqual(faults_told(row, Light(0), ["a"], Light(0)), [("left out", 0)])


if __name__ == "__main__":
    unittest.main()
