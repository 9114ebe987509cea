"""Lights: sets of the six bands."""

from laidink.errors import InvalidBand

# There is one light for each set of the bands.
LIGHTS = 64


class Light:
    """A set of bands: the colour that a spot sends back."""

    BANDS = 6

    def __init__(self, *bands):
        number = 0
        for band in bands:
            check_band(band)
            number = number | (1 << band)
        self.bands = tuple(_bands_of(number))
        self.number = number

    @classmethod
    def numbered(cls, number):
        """Return the light with this number, from 0 to 63."""
        if number < 0 or number >= LIGHTS:
            raise InvalidBand(number)
        return _light(number)

    @classmethod
    def white(cls):
        """Return the light of all bands."""
        return _light(LIGHTS - 1)

    def within(self, other):
        """Return True if every band of this light is in the other one."""
        return (self.number & other.number) == self.number

    def __or__(self, other):
        return _light(self.number | other.number)

    def __and__(self, other):
        return _light(self.number & other.number)

    def __sub__(self, other):
        return _light(self.number & ~other.number)

    def __xor__(self, other):
        return _light(self.number ^ other.number)

    def __invert__(self):
        return _light(LIGHTS - 1 - self.number)

    def __contains__(self, band):
        return band in self.bands

    def __eq__(self, other):
        return isinstance(other, Light) and self.number == other.number

    def __len__(self):
        return len(self.bands)

    def __bool__(self):
        return bool(self.bands)

    def __str__(self):
        if not self.bands:
            return "-"
        return ".".join([str(band) for band in self.bands])

    def __repr__(self):
        return f"Light({', '.join([str(band) for band in self.bands])})"


def check_band(band):
    """Raise InvalidBand if the number is no band."""
    if band < 0 or band >= Light.BANDS:
        raise InvalidBand(band)


def light_order(light):
    """Return the key by which lights are sorted: fewer bands, then lesser bands."""
    return (len(light.bands), light.bands)


def _bands_of(number):
    return [band for band in range(Light.BANDS) if number & (1 << band)]


def _light(number):
    bands = _bands_of(number)
    return Light(*bands)
