"""Points 7, 8 and 12 to 14, for all films that points 8 to 14 let arise."""

import inspect
import itertools
import unittest

from laidink.errors import InvalidBand
from laidink.films import Film
from laidink.light import Light
from tests.search import pairs_of_lights

HUGE = 10 ** 999
COLOURS = [Light.numbered(number) for number in range(64)]
STARTS = [(colour, inked) for colour in COLOURS for inked in (False, True)]


def films(bands):
    """All films that write these bands.

    An inked start has any effect: an ink that takes where something lies, laid
    first, makes it. A bare start stays bare and as it is, or has any effect:
    an ink that takes where nothing lies, laid second, makes it.
    """
    starts = [(Light(), Light(), False)] + [(off, on, True) for off, on in pairs_of_lights(bands)]
    return [Film(bare, (off, on, True)) for bare in starts for off, on in pairs_of_lights(bands)]


def film_of(off, on, takes):
    """The film of one pass with an ink, as point 8 tells it."""
    told = (off, on, True)
    bare = (Light(), Light(), False) if takes == "inked" else told
    inked = (Light(), Light(), True) if takes == "bare" else told
    return Film(bare, inked)


def printed(off, on, takes, state):
    """The state after one pass with an ink, by the words of point 8."""
    colour, inked = state
    if takes == "any" or (takes == "inked") == inked:
        return ((colour - off) | on, True)
    return state


def map_of(film):
    """The film as the list of the states that it makes of all states."""
    return [seen(film(colour, inked)) for colour, inked in STARTS]


def seen(state):
    return (state[0].number, state[1])


def effect_told(effect):
    return (effect[0].bands, effect[1].bands, effect[2])


def told(film):
    return (effect_told(film.bare), effect_told(film.inked))


class Calls(unittest.TestCase):
    """Points 7, 8, 12 and 13: what a film makes of a state."""

    def test_one_pass_of_every_condition(self):
        for takes in ["any", "bare", "inked"]:
            for off, on in pairs_of_lights([0, 3, 5]):
                film = film_of(off, on, takes)
                for colour, inked in STARTS:
                    after = printed(off, on, takes, (colour, inked))
                    self.assertEqual(film(colour, inked), after)

    def test_all_states_by_hand(self):
        film = Film((Light(0), Light(1), True), (Light(2, 5), Light(), True))
        for colour, inked in STARTS:
            bands = set(colour.bands)
            after = bands - {2, 5} if inked else (bands - {0}) | {1}
            self.assertEqual(film(colour, inked), (Light(*after), True))

    def test_a_bare_spot_that_is_not_reached_stays_bare(self):
        film = film_of(Light(), Light.white(), "inked")
        for colour in COLOURS:
            self.assertEqual(film(colour, False), (colour, False))
            self.assertEqual(film(colour, True), (Light.white(), True))

    def test_an_ink_that_writes_no_band_still_inks(self):
        film = film_of(Light(), Light(), "any")
        for colour in COLOURS:
            self.assertEqual(film(colour, False), (colour, True))

    def test_a_state_is_a_pair_of_a_light_and_a_truth(self):
        for film in [Film.nothing(), *films([2])]:
            for inked in [False, True]:
                state = film(Light(2, 3), inked)
                self.assertEqual([type(state), len(state)], [tuple, 2])
                self.assertEqual([type(state[0]), type(state[1])], [Light, bool])

    def test_inked_stays_inked(self):
        for film in films([0, 1]):
            self.assertIs(film.inked[2], True)
            self.assertIs(film(Light(0), True)[1], True)

    def test_the_film_and_the_colour_stay_as_they_are(self):
        film = film_of(Light(0), Light(1), "any")
        colour = Light(0, 2)
        film(colour, False)
        film(colour, True)
        self.assertEqual((colour.bands, colour.number), ((0, 2), 5))
        self.assertEqual(told(film), (((0,), (1,), True), ((0,), (1,), True)))

    def test_arguments_by_name(self):
        self.assertEqual(Film.nothing()(colour=Light(4), inked=True), (Light(4), True))


class Effects(unittest.TestCase):
    """Point 12: the attributes."""

    def test_attributes_are_set_on_each_object(self):
        self.assertLessEqual({"bare", "inked"}, set(vars(Film.nothing())))

    def test_triples(self):
        sums = [f + g for f in films([0]) for g in films([0])]
        for film in [Film.nothing(), *films([0, 4]), *sums]:
            for effect in [film.bare, film.inked]:
                self.assertEqual([type(effect), len(effect)], [tuple, 3])
                self.assertEqual([type(part) for part in effect], [Light, Light, bool])
                self.assertEqual(effect[0] & effect[1], Light())

    def test_methods_stand_in_the_class_itself(self):
        listed = ["nothing", "idle", "does", "__call__", "__add__", "__eq__"]
        self.assertLessEqual(set(listed), set(vars(Film)))
        self.assertIsInstance(vars(Film)["nothing"], classmethod)
        self.assertIsInstance(vars(Film)["idle"], property)
        self.assertEqual(Film.__module__, "laidink.films")


class Does(unittest.TestCase):
    """Point 13: what becomes of one band."""

    def test_the_last_example_of_the_interface_without_inks(self):
        film = film_of(Light(3), Light(), "inked")
        answers = [film.idle, film.does(3), film.does(3, inked=True), film.bare[2]]
        self.assertEqual(answers, [False, "leave", "off", False])

    def test_every_band_by_what_becomes_of_it(self):
        for film in films([0, 5]):
            for band in range(6):
                for inked in [False, True]:
                    ends = [band in film(colour, inked)[0] for colour in [Light(), Light(band)]]
                    word = {(0, 0): "off", (1, 1): "on", (0, 1): "leave"}[tuple(ends)]
                    self.assertEqual(film.does(band, inked=inked), word)

    def test_a_bare_start_is_meant_if_nothing_is_said(self):
        for film in films([2, 3]):
            for band in range(6):
                self.assertEqual(film.does(band), film.does(band, inked=False))

    def test_each_word(self):
        film = Film((Light(0), Light(1), True), (Light(1), Light(2), True))
        self.assertEqual([film.does(band) for band in range(4)], ["off", "on", "leave", "leave"])
        words = [film.does(band, inked=True) for band in range(4)]
        self.assertEqual(words, ["leave", "off", "on", "leave"])

    def test_no_band(self):
        for film in [Film.nothing(), film_of(Light.white(), Light(), "any")]:
            for number in [-HUGE, -6, -1, 6, 64, HUGE]:
                for passed in [{}, {"inked": False}, {"inked": True}]:
                    with self.assertRaises(InvalidBand) as caught:
                        film.does(number, **passed)
                    self.assertEqual(caught.exception.band, number)

    def test_inked_is_passed_by_keyword(self):
        kind = inspect.signature(Film.does).parameters["inked"].kind
        self.assertEqual(kind, inspect.Parameter.KEYWORD_ONLY)


class Idle(unittest.TestCase):
    """Point 13: the films that change no state."""

    def test_idle_is_true_if_no_state_changes(self):
        same = [seen(state) for state in STARTS]
        for film in films([1, 4]):
            self.assertIs(film.idle, map_of(film) == same)

    def test_nothing(self):
        self.assertIs(Film.nothing().idle, True)

    def test_a_film_that_only_inks_is_not_idle(self):
        self.assertIs(film_of(Light(), Light(), "any").idle, False)
        self.assertIs(film_of(Light(), Light(), "bare").idle, False)
        self.assertIs(film_of(Light(), Light(), "inked").idle, True)

    def test_one_band_is_enough(self):
        for band in range(6):
            self.assertIs(film_of(Light(band), Light(), "inked").idle, False)
            self.assertIs(film_of(Light(), Light(band), "inked").idle, False)


class Sums(unittest.TestCase):
    """Point 14: one film after the other."""

    def check_sum(self, f, g, starts):
        before = (told(f), told(g))
        film = f + g
        self.assertIs(type(film), Film)
        for colour, inked in starts:
            after = g(*f(colour, inked))
            self.assertEqual(film(colour, inked), after)
            for band in range(6):
                ends = {band in film(start, inked)[0] for start in [Light(), Light.white()]}
                word = film.does(band, inked=inked)
                self.assertEqual(word == "leave", len(ends) == 2)
        self.assertEqual((told(f), told(g)), before)

    def test_all_pairs_over_one_band_in_all_states(self):
        for f, g in itertools.product(films([2]), repeat=2):
            self.check_sum(f, g, STARTS)

    def test_all_pairs_over_two_bands(self):
        colours = [Light(*one) for one in [(), (0,), (5,), (0, 5)]]
        starts = [(colour, inked) for colour in colours for inked in [False, True]]
        for f, g in itertools.product(films([0, 5]), repeat=2):
            film = f + g
            for colour, inked in starts:
                self.assertEqual(film(colour, inked), g(*f(colour, inked)))

    def test_the_first_example_of_the_interface_without_inks(self):
        film = film_of(Light(0, 1), Light(), "any") + film_of(Light(), Light(1), "any")
        colour, inked = film(Light(0, 1, 2), False)
        answers = [str(colour), inked, film.does(0), film.does(1), film.does(2)]
        self.assertEqual(answers, ["1.2", True, "off", "on", "leave"])

    def test_a_bare_spot_is_inked_for_the_second_film(self):
        bare = film_of(Light(), Light(0), "bare")
        inked = film_of(Light(0), Light(1), "inked")
        self.assertEqual(told(bare + inked), (((0,), (1,), True), ((0,), (1,), True)))
        self.assertEqual(told(inked + bare), (((), (0,), True), ((0,), (1,), True)))

    def test_a_bare_spot_stays_bare_between_two_films(self):
        inked = film_of(Light(0), Light(1), "inked")
        self.assertEqual(told(inked + inked), (((), (), False), ((0,), (1,), True)))

    def test_brackets_mean_nothing(self):
        for f, g, h in itertools.product(films([3]), repeat=3):
            self.assertEqual((f + g) + h, f + (g + h))

    def test_brackets_mean_nothing_over_two_bands(self):
        some = films([1, 4])[::7]
        for f, g, h in itertools.product(some, repeat=3):
            self.assertEqual((f + g) + h, f + (g + h))

    def test_nothing_on_both_sides(self):
        for film in [Film.nothing(), *films([0, 1])]:
            self.assertEqual(told(Film.nothing() + film), told(film))
            self.assertEqual(told(film + Film.nothing()), told(film))

    def test_a_sum_is_a_new_film(self):
        film = film_of(Light(1), Light(), "any")
        total = film
        total += Film.nothing()
        self.assertIsNot(total, film)
        self.assertEqual(total, film)


class Equality(unittest.TestCase):
    """Point 14: films are equal exactly if they are the same map."""

    def test_nothing(self):
        self.assertEqual(told(Film.nothing()), (((), (), False), ((), (), True)))
        self.assertIs(Film.nothing() == Film.nothing(), True)
        self.assertIsNot(Film.nothing(), Film.nothing())

    def test_equal_if_every_state_becomes_the_same(self):
        found = [(film, map_of(film)) for film in films([0, 3])]
        for (f, f_map), (g, g_map) in itertools.product(found, repeat=2):
            self.assertIs(f == g, f_map == g_map)
            self.assertIs(f != g, f_map != g_map)

    def test_sums_are_equal_if_every_state_becomes_the_same(self):
        sums = [f + g for f, g in itertools.product(films([4]), repeat=2)]
        found = [(film, map_of(film)) for film in sums]
        for (f, f_map), (g, g_map) in itertools.product(found, repeat=2):
            self.assertIs(f == g, f_map == g_map)

    def test_each_way_to_nothing(self):
        idle = film_of(Light(), Light(), "inked")
        self.assertEqual(idle, Film.nothing())
        self.assertEqual(idle + idle, Film.nothing())
        self.assertNotEqual(film_of(Light(), Light(), "bare"), Film.nothing())

    def test_not_equal_to_what_is_no_film(self):
        for film in [Film.nothing(), film_of(Light(0), Light(), "any")]:
            values = [(film.bare, film.inked), film.bare, [], "", 0, None, True, Light()]
            for value in values:
                self.assertIs(film == value, False)
                self.assertIs(value == film, False)
                self.assertIs(film != value, True)


if __name__ == "__main__":
    unittest.main()
