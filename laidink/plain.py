"""Plainer rows: the plainest one, and those with passes left out or joined."""

from laidink.errors import Conditional, NotAnOrder
from laidink.fields import Sets, followed, parted, pass_field, row_field, still_field
from laidink.inks import Bleach, Filter, Ink
from laidink.light import Light, check_band
from laidink.rows import Pass, Row, check_number
from laidink.spots import alike


def levels(row, band):
    """Return the levels of the band, each a list of (mask, around, value)."""
    check_unconditional(row)
    check_band(band)
    sets = Sets(row.masks)
    bare, _ = row_field(sets, row.passes)
    return _levels_in(sets, bare, band)


def plainest(row):
    """Return the plainest row that prints like an unconditional row."""
    check_unconditional(row)
    sets = Sets(row.masks)
    bare, _ = row_field(sets, row.passes)
    passes = _clear_passes(sets, bare)
    for band in range(Light.BANDS):
        found = _levels_in(sets, bare, band)
        # The first level was found last to be covered, so it is printed last.
        for level in found[::-1]:
            for mask, around, value in level:
                passes.append(Pass(mask, _ink_for(band, value), around=around))
    return Row.of(passes)


def needless(row, *, ground=None, inked=None):
    """Return the indexes of the passes without which the row prints alike."""
    sets = Sets(row.masks)
    fields = [pass_field(sets, one) for one in row.passes]
    rests = _rests_of(sets, fields)
    found = []
    before = still_field(sets)
    for number, field in enumerate(fields):
        left = followed(before, rests[number + 1])
        if parted(left, rests[0], ground, inked) == 0:
            found.append(number)
        before = followed(before, field)
    return found


def thinned(row):
    """Return the row from which the least needless pass was removed again and again."""
    numbers = needless(row)
    while numbers:
        row = row.without(numbers[0])
        # Leaving out a pass may make others needless, or needed.
        numbers = needless(row)
    return row


def joined(row, first, second):
    """Return the row with two passes joined into one, or None if it prints otherwise."""
    check_number(row, first)
    check_number(row, second)
    if first >= second:
        raise NotAnOrder()
    one = row[first]
    other = row[second]
    if one.mask != other.mask or one.around != other.around or one.ink.takes != other.ink.takes:
        return None
    joint = (Pass(one.mask, _joint_ink(one.ink, other.ink), around=one.around),)
    before = row.passes[:first]
    between = row.passes[first + 1:second]
    behind = row.passes[second + 1:]
    for passes in (before + between + joint + behind, before + joint + between + behind):
        found = Row.of(passes)
        if alike(row, found):
            return found
    return None


def check_unconditional(row):
    """Raise Conditional if an ink of the row does not take always."""
    for number, one in enumerate(row.passes):
        if one.ink.takes != "any":
            raise Conditional(number)


def _levels_in(sets, effect, band):
    """Return the levels of the band for the row with this effect."""
    values = _values_of(sets, effect, band)
    found = []
    left = sets.whole
    while left:
        value = _common_value(values, left)
        if value == "leave":
            return found
        if value is not None:
            found.append([(None, False, value)])
            return found
        level, gone = _next_level(sets, values, left)
        found.append(level)
        left = left & ~gone
    return found


def _next_level(sets, values, left):
    """Return the next level, and the patch of the sets that it settles."""
    level = []
    gone = 0
    for mask, around in _literals_of(sets):
        here = sets.literal(mask, around) & left
        value = _common_value(values, here)
        if here and value is not None:
            gone = gone | here
            if value != "leave":
                level.append((mask, around, value))
    return (level, gone)


def _values_of(sets, effect, band):
    """Return each value with the patch of the sets that have it."""
    offs, ons, _ = effect
    rest = sets.whole & ~offs[band] & ~ons[band]
    return [("off", offs[band]), ("on", ons[band]), ("leave", rest)]


def _common_value(values, patch):
    """Return the value that all sets of the patch have, or None if they differ."""
    for value, having in values:
        if (patch & ~having) == 0:
            return value
    return None


def _literals_of(sets):
    return [(name, around) for name in sets.names for around in (False, True)]


def _clear_passes(sets, effect):
    """Return passes that write nothing and ink the spots that the effect inks."""
    _, _, marks = effect
    clear = Filter(Light())
    if marks == sets.whole:
        return [Pass(None, clear)]
    return [
        Pass(mask, clear, around=around)
        for mask, around in _literals_of(sets)
        if (sets.literal(mask, around) & ~marks) == 0
    ]


def _ink_for(band, value):
    if value == "off":
        return Filter(Light(band))
    return Bleach(Light(band))


def _rests_of(sets, fields):
    """Return the field of the passes from each index on, and of none behind them."""
    field = still_field(sets)
    found = [field]
    for one in fields[::-1]:
        field = followed(one, field)
        found.append(field)
    return found[::-1]


def _joint_ink(one, other):
    """Return the ink that does at once what two inks with one condition do."""
    if one.takes == "bare":
        # Where the first ink took, the second one meets an inked spot.
        return one
    off = other.off | (one.off - other.on)
    on = other.on | (one.on - other.off)
    return Ink(off, on, takes=one.takes)
