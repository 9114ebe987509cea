"""Spots, and those that part two rows."""

from laidink.errors import TooManyMasks
from laidink.fields import Sets, has_number, least_number, ordered_sets, parted, row_field
from laidink.light import Light
from laidink.rows import Row


class Spot:
    """A place of a sheet, given by its open masks and its ground."""

    def __init__(self, opened, ground, inked):
        self.opened = tuple(sorted(set(opened)))
        self.ground = ground
        self.inked = inked

    def __eq__(self, other):
        return (
            isinstance(other, Spot)
            and self.opened == other.opened
            and self.ground == other.ground
            and self.inked == other.inked
        )


def open_sets(masks):
    """Yield every set of the masks in the order of sets of open masks."""
    names = sorted(set(masks))
    check_many(names)
    yield from ordered_sets(names)


def parting(first, second, *, ground=None, inked=None):
    """Return the least spot that parts the rows, or None if no spot does."""
    names = sorted(set(first.masks + second.masks))
    check_many(names)
    sets = Sets(names)
    one = row_field(sets, first.passes)
    other = row_field(sets, second.passes)
    patch = parted(one, other, ground, inked)
    if patch == 0:
        return None
    number = least_number(patch)
    spots = [
        Spot(sets.listed[number], colour, start)
        for start in _starts(inked)
        for colour in _grounds(ground)
        if has_number(parted(one, other, colour, start), number)
    ]
    return spots[0]


def alike(first, second, *, ground=None, inked=None):
    """Return True if no spot parts the rows."""
    return parting(first, second, ground=ground, inked=inked) is None


def check_many(names):
    """Raise TooManyMasks if there are more masks than a row may have."""
    if len(names) > Row.MASKS:
        raise TooManyMasks(len(names))


def _starts(inked):
    if inked is None:
        return [False, True]
    return [inked]


def _grounds(ground):
    """Return the colours among which the least one that parts two rows is."""
    if ground is not None:
        return [ground]
    # Black shows every band that only one of the rows adds. If that parts
    # nothing, it is enough to have one band that only one of them takes away.
    return [Light()] + [Light(band) for band in range(Light.BANDS)]
