"""The written form of rows."""

from laidink.errors import InvalidText
from laidink.inks import Bleach, Filter, Ink, Opaque
from laidink.light import Light
from laidink.rows import Pass, Row, is_name

DIGITS = ("0", "1", "2", "3", "4", "5")
SIDES = ("on", "around")
# The condition "any" is never written.
CONDITIONS = ("bare", "inked")


def write_row(row):
    """Return the written form of the row."""
    return row.told()


def read_row(text):
    """Return the row that the text writes."""
    if text == "":
        return Row()
    passes = []
    for at, line in enumerate(text.split("\n")):
        one = _pass_in(line)
        if one is None:
            raise InvalidText(at + 1)
        passes.append(one)
    return Row.of(passes)


def _pass_in(line):
    """Return the pass that the line writes, or None if it is not valid."""
    words = line.split(" ")
    if words[0] == "all":
        ink = _ink_in(words[1:])
        return None if ink is None else Pass(None, ink)
    if len(words) < 2 or words[0] not in SIDES or not is_name(words[1]):
        return None
    ink = _ink_in(words[2:])
    return None if ink is None else Pass(words[1], ink, around=words[0] == "around")


def _ink_in(words):
    """Return the ink that the words write, or None if they are not valid."""
    takes = "any"
    if words and words[-1] in CONDITIONS:
        takes = words[-1]
        words = words[:-1]
    lights = [_light_in(word) for word in words[1:]]
    if any([light is None for light in lights]):
        return None
    if len(lights) == 2:
        off, on = lights
        if words[0] != "ink" or off & on:
            return None
        return Ink(off, on, takes=takes)
    if len(lights) == 1:
        return _ink_of_kind(words[0], lights[0], takes)
    return None


def _ink_of_kind(kind, light, takes):
    """Return the ink with one light, or None if there is no such kind."""
    if kind == "filter":
        return Filter(light, takes=takes)
    if kind == "opaque":
        return Opaque(light, takes=takes)
    if kind == "bleach":
        return Bleach(light, takes=takes)
    return None


def _light_in(word):
    """Return the light that the word writes, or None if it is not valid."""
    if word == "-":
        return Light()
    digits = word.split(".")
    if any([digit not in DIGITS for digit in digits]):
        return None
    # Only strictly ascending digits are unchanged here.
    if digits != sorted(set(digits)):
        return None
    bands = [int(digit) for digit in digits]
    return Light(*bands)
