"""Points 15 to 21, and point 2 for passes and rows."""

import itertools
import random
import unittest

from laidink.errors import InvalidPass, NoSuchPass, NotAnOrder, TooLong, TooManyMasks
from laidink.films import Film
from laidink.inks import Bleach, Filter, Ink, Opaque
from laidink.light import Light
from laidink.notation import read_row
from laidink.rows import Pass, Row
from tests import search
from tests.search import NAMES, STARTS

HUGE = 10 ** 999
NO_NAMES = [
    "", "seventh", "abcdefg", "a" * 1000, "A", "Sky", "skY", "a1", "1", "a b", " a", "a ", " ",
    "a\n", "\n", "a.b", "-", "_", "a_b", "\u00e9", "sk\u00ff", "\u0131", "\u0430", "\uff41", "\ud800",
]
NAMED = ["a", "z", "sky", "moon", "ab", "around", "all", "on", "any", "zzzzzz", "abcdef"]
# Strings that are no masks of the rows, and so mean nothing.
STRANGE = ["", "A", "a ", "seventh", "x", "-", "0", "\u00e9", "all", "aa"]


def numbered_pass(number, mask=None):
    """A pass that differs from all with another number from 0 to 63."""
    return Pass(mask, Filter(Light.numbered(number)))


class Examples(unittest.TestCase):
    def test_a_row(self):
        row = read_row("all opaque 0.1\non sky filter 0")
        answers = [len(row), row.masks, row[1].told()]
        answers += [row.film_at(["sky"]).does(0), row.film_at([]).does(0)]
        self.assertEqual(answers, [2, ("sky",), "on sky filter 0", "off", "on"])

    def test_moments(self):
        row = read_row("on a filter 0\naround b bleach 3 inked")
        told = repr(list(row.moments(["a"], Light(0))))
        self.assertEqual(told, "[(Light(0), False), (Light(), True), (Light(3), True)]")

    def test_refused(self):
        with self.assertRaises(NoSuchPass) as caught:
            read_row("on a filter 0")[-1]
        self.assertEqual(caught.exception.number, -1)


class MakingPasses(unittest.TestCase):
    """Point 15."""

    def test_attributes(self):
        ink = Opaque(Light(1), takes="bare")
        for mask in NAMED:
            for around in STARTS:
                one = Pass(mask, ink, around=around)
                self.assertEqual((one.mask, one.around), (mask, around))
                self.assertIs(one.ink, ink)
                self.assertLessEqual({"mask", "ink", "around"}, set(vars(one)))
            self.assertIs(Pass(mask, ink).around, False)

    def test_the_whole_sheet(self):
        one = Pass(None, Filter(Light(2)))
        self.assertEqual((one.mask, one.around), (None, False))
        self.assertIs(Pass(None, Filter(Light(2)), around=False).mask, None)

    def test_strings_that_are_no_names(self):
        for mask in NO_NAMES:
            for around in STARTS:
                with self.assertRaises(InvalidPass) as caught:
                    Pass(mask, Filter(Light()), around=around)
                self.assertEqual(caught.exception.mask, mask)

    def test_every_single_character(self):
        for code in range(1000):
            if chr(code) in "abcdefghijklmnopqrstuvwxyz":
                self.assertEqual(Pass(chr(code), Filter(Light())).mask, chr(code))
            else:
                with self.assertRaises(InvalidPass):
                    Pass(chr(code), Filter(Light()))

    def test_around_no_mask(self):
        with self.assertRaises(InvalidPass) as caught:
            Pass(None, Filter(Light()), around=True)
        self.assertIsNone(caught.exception.mask)

    def test_around_is_passed_by_keyword(self):
        with self.assertRaises(TypeError):
            Pass("a", Filter(Light()), True)


class TakingPart(unittest.TestCase):
    """Point 16."""

    def check(self, opened, is_open):
        ink = Ink(Light(0), Light(1), takes="inked")
        kept = list(opened)
        for one, wanted in [
            (Pass("sky", ink), is_open),
            (Pass("sky", ink, around=True), not is_open),
            (Pass(None, ink), True),
        ]:
            self.assertIs(one.takes_part(opened), wanted)
            self.assertEqual(one.film_at(opened), ink.film() if wanted else Film.nothing())
        self.assertEqual(list(opened), kept)

    def test_lists_and_tuples(self):
        for kind in [list, tuple]:
            self.check(kind([]), False)
            self.check(kind(["sky"]), True)
            self.check(kind(["sea"]), False)
            self.check(kind(["sea", "sky", "moon"]), True)

    def test_duplicates_mean_nothing(self):
        self.check(["sky", "sky"], True)
        self.check(("sea", "sea", "sky", "sky", "sea"), True)

    def test_strange_names_mean_nothing(self):
        for kind in [list, tuple]:
            self.check(kind([*STRANGE, "skys", "sk", "SKY", "sky "]), False)
            self.check(kind([*STRANGE, "sky", "Sky"]), True)
        self.check(["", "s", "k", "y"], False)

    def test_each_film_is_a_new_one(self):
        one = Pass("a", Filter(Light(1)))
        self.assertIsNot(one.film_at(["a"]), one.film_at(["a"]))


class PassesTold(unittest.TestCase):
    """Point 17."""

    def test_told(self):
        ink = Ink(Light(0, 3), Light(1), takes="inked")
        self.assertEqual(Pass(None, ink).told(), "all ink 0.3 1 inked")
        for mask in NAMED:
            self.assertEqual(Pass(mask, ink).told(), "on " + mask + " ink 0.3 1 inked")
            told = Pass(mask, ink, around=True).told()
            self.assertEqual(told, "around " + mask + " ink 0.3 1 inked")

    def test_the_ink_is_told_as_its_kind(self):
        told = [Pass("a", kind(Light(2))).told() for kind in [Filter, Opaque, Bleach]]
        self.assertEqual(told, ["on a filter 2", "on a opaque 2", "on a bleach 2"])

    def test_equal(self):
        inks = [Filter(Light(0)), Ink(Light(0), Light()), Bleach(Light(0)), Filter(Light(0), takes="bare")]
        sides = [(None, False)] + [(mask, around) for mask in ["a", "b"] for around in STARTS]
        found = [(mask, around, ink) for mask, around in sides for ink in inks]
        for one, other in itertools.product(found, repeat=2):
            wanted = one[:2] == other[:2] and one[2] == other[2]
            pair = [Pass(mask, ink, around=around) for mask, around, ink in (one, other)]
            self.assertIs(pair[0] == pair[1], wanted)
            self.assertIs(pair[0] != pair[1], not wanted)

    def test_not_equal_to_what_is_no_pass(self):
        one = Pass("a", Filter(Light(0)))
        for value in [one.told(), ("a", False, one.ink), one.ink, Row(one), [one], None, 0, "a"]:
            self.assertIs(one == value, False)
            self.assertIs(value == one, False)
            self.assertIs(one != value, True)


class MakingRows(unittest.TestCase):
    """Points 2 and 18."""

    def test_attributes(self):
        passes = [numbered_pass(number, mask) for number, mask in enumerate(["c", None, "a", "c", "b"])]
        for row in [Row(*passes), Row.of(passes), Row.of(tuple(passes))]:
            self.assertIs(type(row), Row)
            self.assertIs(type(row.passes), tuple)
            self.assertEqual(row.passes, tuple(passes))
            self.assertEqual(row.masks, ("a", "b", "c"))
            self.assertIs(type(row.masks), tuple)
            self.assertLessEqual({"passes", "masks"}, set(vars(row)))

    def test_no_passes(self):
        for row in [Row(), Row.of([]), Row.of(())]:
            self.assertEqual((row.passes, row.masks, len(row)), ((), (), 0))

    def test_masks_ascend_as_strings(self):
        names = ["b", "ab", "a", "zz", "z", "aaaaaa", "ba"]
        row = Row(*[numbered_pass(0, name) for name in names + names])
        self.assertEqual(row.masks, ("a", "aaaaaa", "ab", "b", "ba", "z", "zz"))
        around = Row(Pass("b", Filter(Light()), around=True), Pass("a", Filter(Light())))
        self.assertEqual(around.masks, ("a", "b"))

    def test_limits(self):
        self.assertEqual((Row.LIMIT, Row.MASKS), (200, 8))
        row = Row(*[numbered_pass(3, NAMES[at % 8]) for at in range(200)])
        self.assertEqual((len(row), len(row.masks)), (200, 8))

    def test_too_long(self):
        for many in [201, 202, 300]:
            passes = [numbered_pass(0)] * many
            for make in [lambda: Row(*passes), lambda: Row.of(passes)]:
                with self.assertRaises(TooLong) as caught:
                    make()
                self.assertEqual(caught.exception.many, many)

    def test_too_many_masks(self):
        for many in [9, 10]:
            passes = [numbered_pass(0, name) for name in NAMES[:many]] * 2 + [numbered_pass(0)]
            for make in [lambda: Row(*passes), lambda: Row.of(tuple(passes))]:
                with self.assertRaises(TooManyMasks) as caught:
                    make()
                self.assertEqual(caught.exception.many, many)

    def test_too_long_comes_first(self):
        passes = [numbered_pass(0, NAMES[at % 10]) for at in range(201)]
        with self.assertRaises(TooLong) as caught:
            Row.of(passes)
        self.assertEqual(caught.exception.many, 201)

    def test_later_changes_of_the_list_have_no_effect(self):
        passes = [numbered_pass(1, "a"), numbered_pass(2, "b")]
        row = Row.of(passes)
        passes.append(numbered_pass(3))
        passes[0] = numbered_pass(4, "c")
        self.assertEqual([one.told() for one in row], ["on a filter 0", "on b filter 1"])
        self.assertEqual(row.masks, ("a", "b"))
        self.assertEqual(len(passes), 3)


class Sequences(unittest.TestCase):
    """Point 19."""

    def test_length(self):
        for many in [0, 1, 2, 199, 200]:
            self.assertEqual(len(Row(*[numbered_pass(0)] * many)), many)

    def test_index(self):
        for many in [0, 1, 5, 64]:
            passes = [numbered_pass(number) for number in range(many)]
            row = Row(*passes)
            for at in range(many):
                self.assertIs(row[at], passes[at])
            for at in [-HUGE, -many - 1, -many or -1, -1, many, many + 1, HUGE]:
                with self.assertRaises(NoSuchPass) as caught:
                    row[at]
                self.assertEqual(caught.exception.number, at)

    def test_a_row_and_a_row(self):
        for first, second in itertools.product(range(4), repeat=2):
            one = Row(*[numbered_pass(at, "a") for at in range(first)])
            other = Row(*[numbered_pass(at, "b") for at in range(second)])
            both = one + other
            self.assertIs(type(both), Row)
            self.assertEqual(both.passes, one.passes + other.passes)
            self.assertEqual(both.masks, tuple(["a"] * bool(first) + ["b"] * bool(second)))
            self.assertEqual((len(one), len(other)), (first, second))
            self.assertIsNot(both, one)
            self.assertIsNot(both, other)

    def test_a_row_and_a_pass(self):
        row = Row(numbered_pass(1, "b"))
        longer = row + numbered_pass(2, "a")
        self.assertEqual(longer.told(), "on b filter 0\non a filter 1")
        self.assertEqual(longer.masks, ("a", "b"))
        self.assertEqual(len(row), 1)
        self.assertEqual((Row() + numbered_pass(2)).told(), "all filter 1")

    def test_too_long_a_sum(self):
        row = Row(*[numbered_pass(0)] * 200)
        self.assertEqual(row + Row(), row)
        for other, many in [(numbered_pass(0), 201), (Row(numbered_pass(0)), 201), (row, 400)]:
            with self.assertRaises(TooLong) as caught:
                row + other
            self.assertEqual(caught.exception.many, many)
            self.assertEqual(len(row), 200)

    def test_too_many_masks_of_a_sum(self):
        row = Row(*[numbered_pass(0, name) for name in NAMES[:8]])
        more = Row(numbered_pass(0, "i"), numbered_pass(0, "j"))
        for other, many in [(numbered_pass(0, "i"), 9), (more, 10)]:
            with self.assertRaises(TooManyMasks) as caught:
                row + other
            self.assertEqual(caught.exception.many, many)
        long = Row(*row.passes * 25)
        with self.assertRaises(TooLong) as caught:
            long + numbered_pass(0, "i")
        self.assertEqual(caught.exception.many, 201)

    def test_iteration(self):
        passes = [numbered_pass(number) for number in range(5)]
        row = Row(*passes)
        self.assertEqual([one.told() for one in row], [one.told() for one in passes])
        self.assertEqual(list(row), passes)
        self.assertEqual(list(zip(row, row)), list(zip(passes, passes)))
        self.assertEqual(list(Row()), [])
        self.assertIn(numbered_pass(3), row)
        self.assertNotIn(numbered_pass(9), row)

    def test_equal(self):
        found = [[numbered_pass(number) for number in numbers]
                 for many in range(3) for numbers in itertools.product(range(3), repeat=many)]
        for one, other in itertools.product(found, repeat=2):
            wanted = [p.told() for p in one] == [p.told() for p in other]
            self.assertIs(Row(*one) == Row(*other), wanted)
            self.assertIs(Row(*one) != Row(*other), not wanted)

    def test_equal_inks_of_other_kinds(self):
        self.assertIs(Row(Pass("a", Filter(Light(0)))) == read_row("on a ink 0 -"), True)

    def test_rows_that_print_alike_need_not_be_equal(self):
        self.assertIs(read_row("all filter 0\nall filter 1") == read_row("all filter 1\nall filter 0"), False)
        self.assertIs(read_row("all filter 0\nall filter 0") == read_row("all filter 0"), False)

    def test_not_equal_to_what_is_no_row(self):
        for row in [Row(), Row(numbered_pass(1)), Row(numbered_pass(1), numbered_pass(2))]:
            values = [list(row), row.passes, row.told(), len(row), None, True, row.film_at([])]
            for value in values + list(row):
                self.assertIs(row == value, False)
                self.assertIs(value == row, False)
                self.assertIs(row != value, True)


class Changed(unittest.TestCase):
    """Point 20."""

    def test_without(self):
        passes = [numbered_pass(number, NAMES[number]) for number in range(5)]
        row = Row(*passes)
        for many in range(4):
            for numbers in itertools.product(range(5), repeat=many):
                left = row.without(*numbers)
                kept = [one for at, one in enumerate(passes) if at not in numbers]
                self.assertEqual(left.passes, tuple(kept))
                self.assertEqual(left.masks, tuple(one.mask for one in kept))
        self.assertEqual(row.passes, tuple(passes))

    def test_without_a_pass_that_is_there_twice(self):
        row = Row(numbered_pass(1), numbered_pass(1), numbered_pass(2))
        self.assertEqual(row.without(0).told(), "all filter 0\nall filter 1")

    def test_the_first_index_that_the_row_does_not_have(self):
        row = Row(*[numbered_pass(number) for number in range(3)])
        wrong = [-HUGE, -3, -1, 3, 4, HUGE]
        for first, second in itertools.permutations(wrong, 2):
            for numbers in [[first], [first, second], [0, 0, first, 1, second], [2, first, 2]]:
                with self.assertRaises(NoSuchPass) as caught:
                    row.without(*numbers)
                self.assertEqual(caught.exception.number, first)
        with self.assertRaises(NoSuchPass) as caught:
            Row().without(0)
        self.assertEqual(caught.exception.number, 0)
        self.assertEqual(len(row), 3)

    def test_reordered(self):
        passes = [numbered_pass(number, NAMES[number]) for number in range(4)]
        row = Row(*passes)
        for order in itertools.permutations(range(4)):
            for kind in [list, tuple]:
                moved = row.reordered(kind(order))
                self.assertEqual(moved.passes, tuple(passes[at] for at in order))
                self.assertEqual(moved.masks, row.masks)
        self.assertEqual(row.passes, tuple(passes))
        self.assertEqual(Row().reordered([]), Row())
        self.assertEqual(Row().reordered(()), Row())

    def test_the_list_stays_as_it_is(self):
        order = [2, 0, 1]
        Row(*[numbered_pass(number) for number in range(3)]).reordered(order)
        self.assertEqual(order, [2, 0, 1])

    def test_not_an_order(self):
        row = Row(*[numbered_pass(number) for number in range(3)])
        wrong = [[], [0], [0, 1], [0, 1, 1], [0, 0, 0], [1, 2, 3], [-1, 0, 1], [-3, -2, -1]]
        wrong += [[0, 1, 2, 2], [0, 1, 2, 3], [0, 1, HUGE], [0, 1, -HUGE], [0, 1, 2, 0, 1, 2]]
        for order in wrong:
            for kind in [list, tuple]:
                with self.assertRaises(NotAnOrder):
                    row.reordered(kind(order))
        with self.assertRaises(NotAnOrder):
            Row().reordered([0])

    def test_told(self):
        self.assertEqual(Row().told(), "")
        self.assertEqual(Row(numbered_pass(1)).told(), "all filter 0")
        row = Row(numbered_pass(1, "sky"), Pass("sky", Bleach(Light(1)), around=True))
        self.assertEqual(row.told(), "on sky filter 0\naround sky bleach 1")


class Printing(unittest.TestCase):
    """Point 21."""

    def check_plan(self, plan, grounds):
        row = search.row_of(plan)
        text = row.told()
        for opened in search.all_sets(row.masks):
            film = row.film_at(opened)
            self.assertIs(type(film), Film)
            self.assertEqual(search.film_told(film), search.effects(plan, opened))
            for ground, inked in itertools.product(grounds, STARTS):
                self.check_spot(row, plan, opened, ground, inked)
        self.assertEqual(row.told(), text)

    def check_spot(self, row, plan, opened, ground, inked):
        wanted = search.states(plan, opened, ground, inked)
        light = Light.numbered(ground)
        ways = [{"inked": inked}] if inked else [{}, {"inked": False}]
        for way in ways:
            state = row.print_at(opened, light, **way)
            self.assertEqual([type(state), type(state[1])], [tuple, bool])
            self.assertEqual(search.state_told(state), wanted[-1])
            found = list(row.moments(opened, light, **way))
            self.assertEqual([search.state_told(state) for state in found], wanted)
            self.assertEqual({type(state) for state in found}, {tuple})

    def test_every_set_of_short_rows(self):
        for plan in search.some_plans(1, 60, 6, NAMES[:3]):
            self.check_plan(plan, [0, 63, 21, 42])

    def test_every_ground(self):
        for plan in search.some_plans(2, 4, 5, NAMES[:2]):
            self.check_plan(plan, range(64))

    def test_long_rows_of_eight_masks(self):
        dice = random.Random(3)
        self.check_plan(search.some_plan(dice, 200, NAMES[:8]), [37])
        plan = search.some_plan(dice, 200, NAMES[:8], takes=["inked", "bare"], sides=[True])
        self.check_plan(plan, [0])

    def test_the_film_is_the_sum_of_the_films(self):
        for plan in search.some_plans(4, 30, 8, NAMES[:3]):
            row = search.row_of(plan)
            for opened in search.all_sets(NAMES[:3]):
                film = Film.nothing()
                for one in row:
                    film = film + one.film_at(opened)
                self.assertEqual(row.film_at(opened), film)
                sums = [Row(*row.passes[:at]).film_at(opened) + Row(*row.passes[at:]).film_at(opened)
                        for at in range(len(row) + 1)]
                self.assertTrue(all(one == film for one in sums))

    def test_no_passes(self):
        self.assertEqual(Row().film_at(["a"]), Film.nothing())
        self.assertEqual(Row().print_at([], Light(3)), (Light(3), False))
        self.assertEqual(list(Row().moments([], Light(3), inked=True)), [(Light(3), True)])

    def test_open_masks_in_every_form(self):
        plan = search.some_plan(random.Random(5), 12, NAMES[:3])
        row = search.row_of(plan)
        for opened in search.all_sets(NAMES[:3]):
            wanted = row.film_at(opened)
            for form in [list(opened), opened[::-1], [*opened, *STRANGE, *opened], (*STRANGE, *opened[::-1])]:
                kept = list(form)
                self.assertEqual(row.film_at(form), wanted)
                self.assertEqual(row.print_at(form, Light(1)), wanted(Light(1), False))
                self.assertEqual(list(row.moments(form, Light(1)))[-1], wanted(Light(1), False))
                self.assertEqual(list(form), kept)

    def test_inked_is_passed_by_keyword(self):
        with self.assertRaises(TypeError):
            Row().print_at([], Light(), True)
        with self.assertRaises(TypeError):
            Row().moments([], Light(), True)

    def test_a_pass_that_does_not_take_has_its_moment(self):
        row = read_row("all filter 0 inked\non a bleach 1\nall filter 0 bare")
        states = [search.state_told(state) for state in row.moments([], Light(0))]
        self.assertEqual(states, [(1, False), (1, False), (1, False), (0, True)])


if __name__ == "__main__":
    unittest.main()
