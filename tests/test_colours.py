"""Points 45 to 47, and point 2 for them."""

import random
import unittest

from laidink.colours import colours, last_passes, masks_told, opened_for
from laidink.errors import CannotCome, TooManyMasks
from laidink.light import Light
from laidink.notation import read_row
from laidink.rows import Row
from tests import search
from tests.search import COLOURS, NAMES, STARTS, step

WORDS = ["open", "shut", "perhaps"]


def light(number):
    return Light.numbered(number)


def colours_of(plan, ground, inked):
    """The pairs of point 45, with the number of the colour."""
    found = {}
    for opened in search.all_sets(search.masks_of(plan)):
        found.setdefault(search.shown(plan, opened, ground, inked), opened)
    return list(found.items())


def last_passes_of(plan, ground, seen, inked):
    """The indexes of point 46; none if the colour cannot come."""
    found = set()
    for opened in search.sets_showing(plan, search.masks_of(plan), ground, seen, inked):
        before = search.states(plan, opened, ground, inked)
        taking = [k for k, one in enumerate(plan) if search.takes_there(one, opened, before[k][1])]
        found.add(taking[-1] if taking else -1)
    return sorted(found)


def masks_told_of(prints, inked):
    """The dict of point 47, or the index of the print that leaves no set."""
    names = search.masks_of(*[plan for plan, _, _ in prints])
    fits = search.all_sets(names)
    for place, (plan, ground, seen) in enumerate(prints):
        fits = [opened for opened in fits if search.shown(plan, opened, ground, inked) == seen]
        if not fits:
            return place
    return {name: search.side_told(name, fits, WORDS) for name in names}


class Examples(unittest.TestCase):
    def test_colours(self):
        row = read_row("on a filter 0\non b opaque 2")
        found = repr(list(colours(row, Light(0, 1))))
        self.assertEqual(found, "[(Light(0, 1), ()), (Light(1), ('a',)), (Light(2), ('b',))]")

    def test_last_passes_and_masks_told(self):
        row = read_row("on a filter 0\non b opaque 2")
        found = [last_passes(row, Light(0), Light(2)), masks_told((row, Light(0), Light(2)))]
        self.assertEqual(found, [[1], {"a": "perhaps", "b": "open"}])


class Colours(unittest.TestCase):
    """Point 45."""

    def check(self, plan, ground, inked, all_wanted=False):
        row = search.row_of(plan)
        text = row.told()
        wanted = colours_of(plan, ground, inked)
        found = list(colours(row, light(ground), inked=inked))
        self.assertEqual([(colour.number, opened) for colour, opened in found], wanted)
        self.assertTrue(all(type(pair) is tuple and type(pair[1]) is tuple for pair in found))
        sets = dict(wanted)
        for number in COLOURS if all_wanted else [*sets, 0, ground, 63, ground ^ 1]:
            opened = opened_for(row, light(ground), light(number), inked=inked)
            self.assertEqual(opened, sets.get(number))
        self.assertEqual(row.told(), text)
        return len(found)

    def test_every_pair_and_colour(self):
        dice = random.Random(81)
        counts = []
        for plan in search.some_plans(81, 40, 7, NAMES[:4]):
            for inked in STARTS:
                counts.append(self.check(plan, dice.randrange(64), inked, all_wanted=True))
        self.assertGreater(len(set(counts)), 6)

    def test_many_grounds(self):
        for plan in search.some_plans(82, 12, 5, NAMES[:3], bands=2):
            for ground in [0, 1, 2, 3, 60, 63]:
                for inked in STARTS:
                    self.check(plan, ground, inked)

    def test_inked_left_out_is_bare(self):
        row = read_row("all filter 0 inked\non a bleach 1 bare")
        self.assertEqual(list(colours(row, Light(0))), [(Light(0), ()), (Light(0, 1), ("a",))])
        self.assertEqual(list(colours(row, Light(0))), list(colours(row, Light(0), inked=False)))
        self.assertEqual(list(colours(row, Light(0), inked=True)), [(Light(), ())])
        self.assertEqual(opened_for(row, Light(0), Light(0, 1)), ("a",))
        self.assertEqual(opened_for(row, Light(0), Light(0, 1), inked=False), ("a",))
        self.assertIsNone(opened_for(row, Light(0), Light(0, 1), inked=True))
        self.assertEqual(opened_for(row, Light(0), Light(), inked=True), ())

    def test_the_least_set_and_the_order_of_sets(self):
        row = read_row("on c opaque 1\non b opaque 2\non a opaque 1")
        self.assertEqual(list(colours(row, Light())), [(Light(), ()), (Light(1), ("a",)), (Light(2), ("b",))])
        row = read_row("on a opaque 3\non b opaque 2\naround a filter 2")
        self.assertEqual(list(colours(row, Light())),
                         [(Light(), ()), (Light(3), ("a",)), (Light(2), ("a", "b"))])

    def test_rows_without_passes_or_masks(self):
        self.assertEqual(list(colours(Row(), Light(3))), [(Light(3), ())])
        self.assertEqual(opened_for(Row(), Light(3), Light(3)), ())
        self.assertIsNone(opened_for(Row(), Light(3), Light()))
        row = read_row("all bleach 1\nall filter 0")
        self.assertEqual(list(colours(row, Light(0))), [(Light(1), ())])

    def test_long_rows_and_all_colours(self):
        plan = [step(name, "bleach", [at]) for at, name in enumerate(NAMES[:6])]
        self.assertEqual(self.check(plan, 0, False, all_wanted=True), 64)
        dice = random.Random(83)
        plan = search.some_plan(dice, 200, NAMES[:8])
        for inked in STARTS:
            self.check(plan, 21, inked)
        plan = search.some_plan(dice, 200, NAMES[:8], kinds=["filter", "bleach"])
        plan = [one for one in plan if one.mask is not None]
        self.assertGreater(self.check(plan, 21, False), 6)


class LastPasses(unittest.TestCase):
    """Point 46."""

    def check(self, plan, ground, seen, inked):
        row = search.row_of(plan)
        text = row.told()
        wanted = last_passes_of(plan, ground, seen, inked)
        if wanted:
            found = last_passes(row, light(ground), light(seen), inked=inked)
            self.assertIs(type(found), list)
            self.assertEqual(found, wanted)
        else:
            with self.assertRaises(CannotCome) as caught:
                last_passes(row, light(ground), light(seen), inked=inked)
            self.assertEqual(caught.exception.place, 0)
        self.assertEqual(row.told(), text)
        return wanted

    def test_all_colours(self):
        answers = []
        for plan in search.some_plans(84, 60, 6, NAMES[:3], bands=2):
            for ground in [0, 2, 61]:
                for inked in STARTS:
                    answers += [self.check(plan, ground, ground & 60 | seen, inked) for seen in range(4)]
        self.assertGreater(answers.count([]), 50)
        self.assertGreater(sum(len(one) > 1 for one in answers), 50)
        self.assertGreater(sum(-1 in one for one in answers), 50)

    def test_an_ink_that_takes_and_changes_no_colour(self):
        row = read_row("on a filter 0\nall filter -\non b filter 5")
        self.assertEqual(last_passes(row, Light(0), Light(0)), [1, 2])
        self.assertEqual(last_passes(row, Light(0), Light()), [1, 2])

    def test_an_ink_that_takes_part_and_does_not_take(self):
        row = read_row("on a filter 0\nall filter - bare")
        self.assertEqual(last_passes(row, Light(0), Light()), [0])
        self.assertEqual(last_passes(row, Light(0), Light(0)), [1])
        self.assertEqual(last_passes(row, Light(0), Light(0), inked=True), [-1])
        row = read_row("all filter 0 inked\non a filter 1 inked\nall filter 2 bare")
        self.assertEqual(last_passes(row, Light(0, 1, 2), Light(0, 1)), [2])
        self.assertEqual(last_passes(row, Light(0, 1, 2), Light(1, 2), inked=True), [0])
        self.assertEqual(last_passes(row, Light(0, 2), Light(2), inked=True), [0, 1])

    def test_no_pass(self):
        self.assertEqual(last_passes(Row(), Light(3), Light(3)), [-1])
        self.assertEqual(last_passes(read_row("on a filter 0"), Light(3), Light(3)), [-1, 0])
        for seen in [Light(), Light(3, 4), Light.white()]:
            with self.assertRaises(CannotCome) as caught:
                last_passes(Row(), Light(3), seen)
            self.assertEqual(caught.exception.place, 0)

    def test_inked_left_out_is_bare(self):
        row = read_row("all filter 0 bare\nall filter 1 inked")
        self.assertEqual(last_passes(row, Light(0, 1), Light()), [1])
        with self.assertRaises(CannotCome):
            last_passes(row, Light(0, 1), Light(), inked=True)
        self.assertEqual(last_passes(row, Light(0, 1), Light(0), inked=True), [1])

    def test_long_rows(self):
        dice = random.Random(85)
        plan = search.some_plan(dice, 200, NAMES[:8], takes=["bare", "inked", "any"])
        for inked in STARTS:
            for number, _ in colours_of(plan, 9, inked)[:3]:
                self.check(plan, 9, number, inked)
        row = search.row_of([step(NAMES[at % 8], "filter", [0]) for at in range(200)])
        self.assertEqual(last_passes(row, Light(0), Light()), list(range(192, 200)))

    def test_the_list_may_be_changed(self):
        row = read_row("on a filter 0")
        last_passes(row, Light(), Light()).clear()
        self.assertEqual(last_passes(row, Light(), Light()), [-1, 0])


class MasksTold(unittest.TestCase):
    """Point 47."""

    def check(self, prints, inked):
        told = [(search.row_of(plan), light(ground), light(seen)) for plan, ground, seen in prints]
        texts = [row.told() for row, _, _ in told]
        wanted = masks_told_of(prints, inked)
        if isinstance(wanted, dict):
            found = masks_told(*told, inked=inked)
            self.assertIs(type(found), dict)
            self.assertEqual(found, wanted)
        else:
            with self.assertRaises(CannotCome) as caught:
                masks_told(*told, inked=inked)
            self.assertEqual(caught.exception.place, wanted)
        self.assertEqual([row.told() for row, _, _ in told], texts)
        return wanted

    def test_no_print(self):
        for passed in [{}, {"inked": False}, {"inked": True}]:
            self.assertEqual(masks_told(**passed), {})
            self.assertIs(type(masks_told(**passed)), dict)

    def test_one_print(self):
        words = []
        for plan in search.some_plans(86, 60, 5, NAMES[:3], bands=2):
            for inked in STARTS:
                for seen in range(4):
                    wanted = self.check([(plan, 2, seen)], inked)
                    words += wanted.values() if isinstance(wanted, dict) else ["cannot come"]
        self.assertTrue(all(words.count(word) > 30 for word in [*WORDS, "cannot come"]))

    def test_several_prints(self):
        dice = random.Random(87)
        places = []
        for _ in range(250):
            opened = dice.choice(search.all_sets(NAMES[:5]))
            prints = []
            inked = dice.choice(STARTS)
            for _ in range(dice.randrange(1, 5)):
                plan = search.some_plan(dice, dice.randrange(4), dice.sample(NAMES[:5], 2), bands=2)
                ground = dice.randrange(4)
                seen = search.shown(plan, opened, ground, inked)
                prints.append((plan, ground, dice.randrange(4) if dice.random() < 0.2 else seen))
            wanted = self.check(prints, inked)
            places.append(wanted if isinstance(wanted, int) else None)
        self.assertGreater(min(places.count(place) for place in [None, 0, 1, 2]), 4)

    def test_masks_that_one_row_has_and_another_has_not(self):
        first = (read_row("on a filter 0\non b filter 0"), Light(0), Light())
        second = (read_row("on b bleach 1\non c bleach 1"), Light(), Light())
        self.assertEqual(masks_told(first), {"a": "perhaps", "b": "perhaps"})
        self.assertEqual(masks_told(first, second), {"a": "open", "b": "shut", "c": "shut"})
        self.assertEqual(masks_told(second, first), {"a": "open", "b": "shut", "c": "shut"})
        third = (read_row("on d filter 3 inked"), Light(), Light())
        self.assertEqual(masks_told(second, third), {"b": "shut", "c": "shut", "d": "perhaps"})

    def test_rows_without_masks(self):
        row = read_row("all filter 0")
        self.assertEqual(masks_told((row, Light(0), Light()), (Row(), Light(2), Light(2))), {})
        with self.assertRaises(CannotCome) as caught:
            masks_told((row, Light(0), Light()), (row, Light(0), Light(0)))
        self.assertEqual(caught.exception.place, 1)

    def test_the_first_print_that_leaves_no_set(self):
        row = read_row("on a filter 0")
        shut, opened, wrong = (row, Light(0), Light(0)), (row, Light(0), Light()), (row, Light(0), Light(1))
        for prints, place in [([wrong], 0), ([shut, opened, wrong], 1), ([shut, shut, wrong, opened], 2),
                              ([opened, opened, opened, shut], 3)]:
            with self.assertRaises(CannotCome) as caught:
                masks_told(*prints)
            self.assertEqual(caught.exception.place, place)

    def test_inked_left_out_is_bare(self):
        one = (read_row("on a filter 0 inked\non b filter 0 bare"), Light(0), Light())
        self.assertEqual(masks_told(one), {"a": "perhaps", "b": "open"})
        self.assertEqual(masks_told(one, inked=False), {"a": "perhaps", "b": "open"})
        self.assertEqual(masks_told(one, inked=True), {"a": "open", "b": "perhaps"})

    def test_eight_masks_together(self):
        dice = random.Random(88)
        opened = ("b", "c", "h")
        prints = []
        for names in [NAMES[:4], NAMES[2:6], NAMES[4:8], NAMES[:8]]:
            plan = [search.some_step(dice, [name])._replace(mask=name) for name in names]
            prints.append((plan, 42, search.shown(plan, opened, 42, False)))
        self.assertEqual(len(self.check(prints, False)), 8)
        plan = search.some_plan(dice, 200, NAMES[:8])
        self.check([(plan, 7, search.shown(plan, opened, 7, False)), *prints], False)

    def test_too_many_masks(self):
        first = search.row_of([step(name, "filter", [0]) for name in NAMES[:8]])
        second = read_row("on i filter 0\non a filter 0")
        third = read_row("on j filter 0\non b filter 0")
        for rows, many in [([first, second], 9), ([second, first], 9), ([first, second, third], 10)]:
            for seen in [Light(), Light(3)]:
                with self.assertRaises(TooManyMasks) as caught:
                    masks_told(*[(row, Light(0), seen) for row in rows])
                self.assertEqual(caught.exception.many, many)
        self.assertEqual(len(masks_told((first, Light(0), Light()))), 8)

    def test_the_dict_may_be_changed(self):
        one = (read_row("on a filter 0"), Light(0), Light())
        masks_told(one).clear()
        masks_told().update(a="open")
        self.assertEqual(masks_told(one), {"a": "open"})
        self.assertEqual(masks_told(), {})


if __name__ == "__main__":
    unittest.main()
