"""Points 2 to 6, and the examples of laidink/light.py."""

import itertools
import unittest

from laidink.errors import InvalidBand
from laidink.light import Light, light_order

HUGE = 10 ** 999
NO_BANDS = [-HUGE, -64, -6, -2, -1, 6, 7, 63, 64, HUGE]


def subsets():
    """All sets of bands as ascending tuples, counted without the program."""
    bands = range(6)
    return [one for size in range(7) for one in itertools.combinations(bands, size)]


def state_of(light):
    return (light.bands, light.number)


class Examples(unittest.TestCase):
    def test_attributes(self):
        light = Light(5, 0, 2, 0)
        told = [light.bands, light.number, str(light), repr(light), len(light)]
        self.assertEqual(told, [(0, 2, 5), 37, "0.2.5", "Light(0, 2, 5)", 3])

    def test_operators(self):
        self.assertEqual(str(~Light(0, 1) - Light(5)), "2.3.4")

    def test_refused(self):
        with self.assertRaises(InvalidBand) as caught:
            Light(0, 6)
        self.assertEqual(caught.exception.band, 6)


class Making(unittest.TestCase):
    """Point 3."""

    def test_no_numbers(self):
        self.assertEqual(state_of(Light()), ((), 0))

    def test_every_set_in_every_order(self):
        for bands in subsets():
            for order in itertools.permutations(bands):
                self.assertEqual(Light(*order).bands, bands)

    def test_duplicates_mean_nothing(self):
        for bands in subsets():
            self.assertEqual(Light(*bands, *bands[::-1], *bands).bands, bands)
        self.assertEqual(Light(*[3] * 1000).bands, (3,))

    def test_bands_are_a_tuple_of_integers(self):
        light = Light(4, 1)
        self.assertIs(type(light.bands), tuple)
        self.assertEqual([type(band) for band in light.bands], [int, int])
        self.assertIs(type(light.number), int)

    def test_attributes_are_set_on_each_object(self):
        self.assertLessEqual({"bands", "number"}, set(vars(Light(1))))

    def test_no_band(self):
        for number in NO_BANDS:
            with self.assertRaises(InvalidBand) as caught:
                Light(number)
            self.assertEqual(caught.exception.band, number)

    def test_the_first_bad_number_in_the_order_of_the_arguments(self):
        for first, second in itertools.permutations(NO_BANDS, 2):
            for passed in [(first, second), (0, first, second), (5, 3, 5, first, 1, second)]:
                with self.assertRaises(InvalidBand) as caught:
                    Light(*passed)
                self.assertEqual(caught.exception.band, first)

    def test_lists_that_are_unpacked_stay_as_they_are(self):
        bands = [5, 0, 5]
        light = Light(*bands)
        self.assertEqual(bands, [5, 0, 5])
        bands.append(3)
        self.assertEqual(light.bands, (0, 5))


class Numbers(unittest.TestCase):
    """Point 4."""

    def test_number_is_the_sum_of_the_powers(self):
        for bands in subsets():
            self.assertEqual(Light(*bands).number, sum(2 ** band for band in bands))

    def test_every_number_has_its_light(self):
        for number in range(64):
            light = Light.numbered(number)
            self.assertIs(type(light), Light)
            self.assertEqual(light.number, number)
            self.assertEqual(light, Light(*light.bands))
            self.assertEqual(sum(2 ** band for band in light.bands), number)

    def test_numbers_out_of_range(self):
        for number in [-HUGE, -64, -2, -1, 64, 65, 128, HUGE]:
            with self.assertRaises(InvalidBand) as caught:
                Light.numbered(number)
            self.assertEqual(caught.exception.band, number)

    def test_white(self):
        self.assertEqual(state_of(Light.white()), ((0, 1, 2, 3, 4, 5), 63))
        self.assertIsNot(Light.white(), Light.white())

    def test_how_many_bands(self):
        self.assertEqual(Light.BANDS, 6)
        self.assertEqual(Light(1).BANDS, 6)


class Operators(unittest.TestCase):
    """Point 5."""

    def check_pairs(self, combined, by_hand):
        for one, other in itertools.product(subsets(), repeat=2):
            a, b = Light(*one), Light(*other)
            result = combined(a, b)
            bands = tuple(sorted(by_hand(set(one), set(other))))
            self.assertIs(type(result), Light)
            self.assertEqual(state_of(result), (bands, sum(2 ** band for band in bands)))
            self.assertEqual((a.bands, b.bands), (one, other))
            self.assertEqual((a.number, b.number), (Light(*one).number, Light(*other).number))
            self.assertIsNot(result, a)
            self.assertIsNot(result, b)

    def test_either(self):
        self.check_pairs(lambda a, b: a | b, lambda a, b: a | b)

    def test_both(self):
        self.check_pairs(lambda a, b: a & b, lambda a, b: a & b)

    def test_not_the_other(self):
        self.check_pairs(lambda a, b: a - b, lambda a, b: a - b)

    def test_exactly_one(self):
        self.check_pairs(lambda a, b: a ^ b, lambda a, b: a ^ b)

    def test_not_in(self):
        for bands in subsets():
            light = Light(*bands)
            rest = tuple(band for band in range(6) if band not in bands)
            self.assertEqual(state_of(~light), state_of(Light(*rest)))
            self.assertIs(type(~light), Light)
            self.assertEqual(light.bands, bands)

    def test_an_operand_with_itself(self):
        for bands in subsets():
            light = Light(*bands)
            results = [light | light, light & light, light - light, light ^ light]
            self.assertEqual([one.bands for one in results], [bands, bands, (), ()])
            self.assertFalse(any(one is light for one in results))

    def test_assigning_operators_make_new_lights(self):
        light = kept = Light(1)
        light |= Light(2)
        self.assertEqual((light.bands, kept.bands), ((1, 2), (1,)))

    def test_band_in_light(self):
        for bands in subsets():
            light = Light(*bands)
            for band in range(6):
                self.assertIs(band in light, band in bands)
                self.assertIs(band not in light, band not in bands)

    def test_no_band_is_in_a_light(self):
        for number in NO_BANDS:
            for light in [Light(), Light(0), Light(5), Light.white()]:
                self.assertIs(number in light, False)

    def test_length_and_truth(self):
        for bands in subsets():
            self.assertEqual(len(Light(*bands)), len(bands))
            self.assertIs(bool(Light(*bands)), bands != ())

    def test_equal(self):
        for one, other in itertools.product(subsets(), repeat=2):
            self.assertIs(Light(*one) == Light(*other), one == other)
            self.assertIs(Light(*one) != Light(*other), one != other)

    def test_not_equal_to_what_is_no_light(self):
        for bands in subsets():
            light = Light(*bands)
            for value in [bands, list(bands), str(light), repr(light), light.number, None, True]:
                self.assertIs(light == value, False)
                self.assertIs(value == light, False)
                self.assertIs(light != value, True)

    def test_within(self):
        for one, other in itertools.product(subsets(), repeat=2):
            self.assertIs(Light(*one).within(Light(*other)), set(one) <= set(other))

    def test_methods_stand_in_the_class_itself(self):
        listed = ["numbered", "white", "within", "BANDS", "__init__"]
        listed += ["__or__", "__and__", "__sub__", "__xor__", "__invert__", "__contains__"]
        listed += ["__eq__", "__len__", "__bool__", "__str__", "__repr__"]
        self.assertLessEqual(set(listed), set(vars(Light)))
        self.assertEqual(Light.__module__, "laidink.light")


class WrittenForms(unittest.TestCase):
    """Point 6."""

    def test_str(self):
        self.assertEqual(str(Light()), "-")
        self.assertEqual(str(Light(4)), "4")
        for bands in subsets()[1:]:
            self.assertEqual(str(Light(*bands)), ".".join("012345"[band] for band in bands))

    def test_repr(self):
        self.assertEqual(repr(Light()), "Light()")
        self.assertEqual(repr(Light(2, 0)), "Light(0, 2)")
        for bands in subsets():
            inner = ", ".join("012345"[band] for band in bands)
            self.assertEqual(repr(Light(*bands)), "Light(" + inner + ")")

    def test_order(self):
        lights = [Light.numbered(number) for number in range(64)]
        self.assertEqual([one.bands for one in sorted(lights, key=light_order)], subsets())


if __name__ == "__main__":
    unittest.main()
