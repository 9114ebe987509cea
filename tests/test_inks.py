"""Points 8 to 11, and of points 2 and 12 to 14 what they say of inks."""

import itertools
import unittest

from laidink.errors import InvalidInk, InvalidTakes
from laidink.films import Film
from laidink.inks import Bleach, Filter, Ink, Opaque, laid, mixed
from laidink.light import Light
from tests.search import pairs_of_lights

LIGHTS = [Light.numbered(number) for number in range(64)]
TAKES = ["any", "bare", "inked"]
NO_TAKES = ["", "Any", "ANY", "any ", " bare", "bare inked", "none", "bar", "inke", "ink"]
KINDS = [Filter, Opaque, Bleach]
BEHIND = {"any": "", "bare": " bare", "inked": " inked"}


def inks(bands, takes=("any", "bare", "inked")):
    """All inks of class Ink over these bands."""
    return [Ink(off, on, takes=word) for off, on in pairs_of_lights(bands) for word in takes]


def told(ink):
    return (ink.off.number, ink.on.number, ink.takes)


def printed(off, on, takes, colour, inked):
    """The state after the ink by the words of point 8."""
    if takes == "any" or takes == ("inked" if inked else "bare"):
        return ((colour & ~off) | on, True)
    return (colour, inked)


class Examples(unittest.TestCase):
    def test_opaque(self):
        ink = Opaque(Light(1, 4), takes="bare")
        answers = [ink.told(), str(ink.off), str(ink.on), str(ink.writes())]
        self.assertEqual(answers, ["opaque 1.4 bare", "0.2.3.5", "1.4", "0.1.2.3.4.5"])

    def test_refused(self):
        with self.assertRaises(InvalidInk) as caught:
            Ink(Light(1, 3, 4), Light(3, 4))
        self.assertEqual(caught.exception.band, 3)

    def test_mixed(self):
        cyan = Filter(Light(0, 1))
        pale = Bleach(Light(1, 2))
        pot = mixed(cyan, pale)
        answers = [pot.told(), pot.film() == laid(cyan, pale), pot.film() == laid(pale, cyan)]
        self.assertEqual(answers, ["ink 0.1 2", False, True])

    def test_films_laid(self):
        film = laid(Filter(Light(0, 1)), Bleach(Light(1)))
        colour, inked = film(Light(0, 1, 2), False)
        answers = [str(colour), inked, film.does(0), film.does(1), film.does(2)]
        self.assertEqual(answers, ["1.2", True, "off", "on", "leave"])

    def test_film_of_a_condition(self):
        film = Filter(Light(3), takes="inked").film()
        answers = [film.idle, film.does(3), film.does(3, inked=True), film.bare[2]]
        self.assertEqual(answers, [False, "leave", "off", False])


class Making(unittest.TestCase):
    """Point 9."""

    def test_attributes_of_an_ink(self):
        for off, on in pairs_of_lights(range(6)):
            for takes in TAKES:
                ink = Ink(off, on, takes=takes)
                self.assertEqual(told(ink), (off.number, on.number, takes))
                self.assertLessEqual({"off", "on", "takes"}, set(vars(ink)))

    def test_attributes_of_the_three_kinds(self):
        for light in LIGHTS:
            rest = 63 - light.number
            wanted = [(light.number, 0), (rest, light.number), (0, light.number)]
            for kind, (off, on) in zip(KINDS, wanted):
                for takes in TAKES:
                    ink = kind(light, takes=takes)
                    self.assertEqual(told(ink), (off, on, takes))
                    self.assertEqual([type(ink.off), type(ink.on)], [Light, Light])
                    self.assertLessEqual({"off", "on", "takes"}, set(vars(ink)))

    def test_each_kind_is_an_ink(self):
        for kind in KINDS:
            self.assertEqual(kind.__bases__, (Ink,))
            self.assertIsInstance(kind(Light(1)), Ink)

    def test_an_ink_takes_always_if_nothing_is_said(self):
        self.assertEqual(Ink(Light(0), Light(1)).takes, "any")
        for kind in KINDS:
            self.assertEqual(kind(Light(0)).takes, "any")

    def test_conditions(self):
        self.assertEqual(Ink.TAKES, ("any", "bare", "inked"))
        for kind in KINDS:
            self.assertEqual(kind.TAKES, ("any", "bare", "inked"))

    def test_the_condition_is_passed_by_keyword(self):
        with self.assertRaises(TypeError):
            Ink(Light(), Light(), "any")
        for kind in KINDS:
            with self.assertRaises(TypeError):
                kind(Light(), "any")

    def test_the_least_shared_band(self):
        for off, on in itertools.product(LIGHTS, repeat=2):
            shared = sorted(set(off.bands) & set(on.bands))
            if shared:
                with self.assertRaises(InvalidInk) as caught:
                    Ink(off, on)
                self.assertEqual(caught.exception.band, shared[0])
            else:
                self.assertEqual(told(Ink(off, on)), (off.number, on.number, "any"))

    def test_conditions_that_are_none(self):
        for takes in NO_TAKES:
            makers = [lambda: Ink(Light(0), Light(1), takes=takes)]
            makers += [lambda kind=kind: kind(Light(0), takes=takes) for kind in KINDS]
            for make in makers:
                with self.assertRaises(InvalidTakes) as caught:
                    make()
                self.assertEqual(caught.exception.takes, takes)

    def test_a_shared_band_comes_first(self):
        for takes in NO_TAKES:
            with self.assertRaises(InvalidInk) as caught:
                Ink(Light(2, 5), Light(5, 2), takes=takes)
            self.assertEqual(caught.exception.band, 2)

    def test_the_lights_stay_as_they_are(self):
        off, on = Light(0, 1), Light(2)
        ink = Ink(off, on)
        ink.writes()
        ink.film()
        ink.told()
        self.assertEqual((off, on), (Light(0, 1), Light(2)))
        self.assertEqual(told(ink), (3, 4, "any"))


class Films(unittest.TestCase):
    """Points 8 and 12 to 14."""

    def check_film(self, ink):
        film = ink.film()
        self.assertIs(type(film), Film)
        for colour in LIGHTS:
            for inked in [False, True]:
                wanted = printed(*told(ink), colour.number, inked)
                after = film(colour, inked)
                self.assertEqual((after[0].number, after[1]), wanted)

    def test_all_colours_of_the_three_kinds(self):
        for kind in KINDS:
            for light in LIGHTS[::3]:
                for takes in TAKES:
                    self.check_film(kind(light, takes=takes))

    def test_all_colours_of_inks(self):
        for ink in inks([0, 2, 5]):
            self.check_film(ink)

    def test_effects(self):
        nothing = Film.nothing()
        for off, on in pairs_of_lights([1, 4]):
            always, bare, inked = [Ink(off, on, takes=takes).film() for takes in TAKES]
            self.assertEqual((always.bare, always.inked), ((off, on, True), (off, on, True)))
            self.assertEqual((bare.bare, bare.inked), ((off, on, True), nothing.inked))
            self.assertEqual((inked.bare, inked.inked), (nothing.bare, (off, on, True)))

    def test_an_ink_that_writes_nothing_still_inks(self):
        for ink in [Filter(Light()), Bleach(Light()), Ink(Light(), Light(), takes="bare")]:
            self.assertEqual(ink.film()(Light(3), False), (Light(3), True))
        waits = Ink(Light(), Light(), takes="inked")
        self.assertEqual(waits.film()(Light(3), False), (Light(3), False))
        self.assertIs(waits.film().idle, True)
        self.assertIs(Filter(Light()).film().idle, False)

    def test_each_film_is_a_new_one(self):
        ink = Filter(Light(1))
        self.assertIsNot(ink.film(), ink.film())
        self.assertEqual(ink.film(), ink.film())


class WrittenForms(unittest.TestCase):
    """Point 10."""

    def test_writes(self):
        for off, on in pairs_of_lights(range(6)):
            self.assertEqual(Ink(off, on).writes().number, off.number + on.number)
        for light in LIGHTS:
            self.assertEqual(Filter(light).writes(), light)
            self.assertEqual(Bleach(light).writes(), light)
            self.assertEqual(Opaque(light).writes(), Light.white())

    def test_an_ink(self):
        for off, on in pairs_of_lights(range(6)):
            for takes in TAKES:
                words = "ink " + str(off) + " " + str(on) + BEHIND[takes]
                self.assertEqual(Ink(off, on, takes=takes).told(), words)

    def test_the_three_kinds(self):
        for light in LIGHTS:
            for takes in TAKES:
                for kind in KINDS:
                    words = kind.__name__.lower() + " " + str(light) + BEHIND[takes]
                    self.assertEqual(kind(light, takes=takes).told(), words)

    def test_some_by_hand(self):
        self.assertEqual(Ink(Light(), Light()).told(), "ink - -")
        self.assertEqual(Ink(Light(3, 0), Light(1), takes="inked").told(), "ink 0.3 1 inked")
        self.assertEqual(Filter(Light()).told(), "filter -")
        self.assertEqual(Bleach(Light(5, 2), takes="bare").told(), "bleach 2.5 bare")
        self.assertEqual(Opaque(Light.white()).told(), "opaque 0.1.2.3.4.5")


class Equality(unittest.TestCase):
    """Point 10."""

    def test_equal_of_whatever_kind(self):
        found = inks([0, 5])
        for light in [Light(), Light(0), Light(5), Light(0, 5), Light.white()]:
            for kind in KINDS:
                found += [kind(light, takes=takes) for takes in TAKES]
        for one, other in itertools.product(found, repeat=2):
            self.assertIs(one == other, told(one) == told(other))
            self.assertIs(one != other, told(one) != told(other))

    def test_between_kinds_in_both_orders(self):
        pairs = [
            (Filter(Light(0)), Ink(Light(0), Light())),
            (Bleach(Light(2)), Ink(Light(), Light(2))),
            (Opaque(Light(1)), Ink(Light(0, 2, 3, 4, 5), Light(1))),
            (Opaque(Light()), Filter(Light.white())),
            (Opaque(Light.white()), Bleach(Light.white())),
            (Filter(Light()), Bleach(Light())),
        ]
        for one, other in pairs:
            self.assertIs(one == other, True)
            self.assertIs(other == one, True)
        for one, other in itertools.combinations([Filter(Light(1)), Bleach(Light(1)), Opaque(Light(1))], 2):
            self.assertIs(one == other, False)
            self.assertIs(other == one, False)

    def test_not_equal_to_what_is_no_ink(self):
        for ink in [Ink(Light(0), Light(1)), Filter(Light(0)), Bleach(Light()), Opaque(Light(2))]:
            values = [ink.told(), (ink.off, ink.on, ink.takes), [], None, 0, True, ink.off, ink.film()]
            for value in values:
                self.assertIs(ink == value, False)
                self.assertIs(value == ink, False)
                self.assertIs(ink != value, True)


class Mixed(unittest.TestCase):
    """Point 11."""

    def test_without_inks(self):
        self.assertEqual(told(mixed()), (0, 0, "any"))
        self.assertEqual(mixed().told(), "ink - -")
        self.assertIs(type(mixed()), Ink)

    def test_one_ink(self):
        for kind in KINDS:
            for takes in TAKES:
                ink = kind(Light(1, 2), takes=takes)
                pot = mixed(ink)
                self.assertEqual(pot, ink)
                self.assertIs(type(pot), Ink)
                self.assertTrue(pot.told().startswith("ink "))
        self.assertEqual(mixed(Filter(Light(0), takes="bare")).told(), "ink 0 - bare")

    def test_several_inks(self):
        found = inks([1, 3], ["any"]) + [Opaque(Light(3)), Filter(Light(0, 1)), Bleach(Light(1, 5))]
        for takes in TAKES:
            for some in itertools.product(found[::2], repeat=3):
                off = set().union(*[ink.off.bands for ink in some])
                on = set().union(*[ink.on.bands for ink in some]) - off
                pot = mixed(*[Ink(ink.off, ink.on, takes=takes) for ink in some])
                self.assertEqual((pot.off, pot.on, pot.takes), (Light(*off), Light(*on), takes))

    def test_the_first_condition_that_differs_from_the_first(self):
        for some in itertools.product(TAKES, repeat=4):
            several = [Filter(Light(at), takes=takes) for at, takes in enumerate(some)]
            others = [takes for takes in some if takes != some[0]]
            if others:
                with self.assertRaises(InvalidTakes) as caught:
                    mixed(*several)
                self.assertEqual(caught.exception.takes, others[0])
            else:
                self.assertEqual(mixed(*several), Filter(Light(0, 1, 2, 3), takes=some[0]))

    def test_the_inks_stay_as_they_are(self):
        several = [Filter(Light(0)), Bleach(Light(0, 1))]
        mixed(*several)
        laid(*several)
        self.assertEqual([told(ink) for ink in several], [(1, 0, "any"), (0, 3, "any")])


class Laid(unittest.TestCase):
    """Point 11."""

    def test_without_inks(self):
        self.assertEqual(laid(), Film.nothing())

    def test_one_ink(self):
        for ink in inks([0, 4]):
            self.assertEqual(laid(ink), ink.film())

    def test_several_inks_in_all_states(self):
        found = inks([2])
        for some in itertools.product(found, repeat=3):
            film = laid(*some)
            for colour in [Light(), Light(2), Light(0), Light(0, 2)]:
                for inked in [False, True]:
                    state = (colour.number, inked)
                    for ink in some:
                        state = printed(*told(ink), *state)
                    after = film(colour, inked)
                    self.assertEqual((after[0].number, after[1]), state)

    def test_mixed_and_laid(self):
        for a, b in itertools.product(inks([1, 2], ["any"]), repeat=2):
            equal = mixed(a, b).film() == laid(a, b)
            self.assertIs(equal, not set(a.off.bands) & set(b.on.bands))


if __name__ == "__main__":
    unittest.main()
