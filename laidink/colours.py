"""Colours that can come, and what they tell of the passes and the masks."""

from laidink.errors import CannotCome
from laidink.fields import Sets, least_number, row_field
from laidink.parts import Parts
from laidink.prints import colour_at, effect_for, showing, shown, side_told
from laidink.spots import check_many


def colours(row, ground, *, inked=False):
    """Yield each colour that the row can leave, with the least set that gives it."""
    sets = Sets(row.masks)
    field = row_field(sets, row.passes)
    patches = shown(sets, field, ground, inked)
    left = sets.whole
    while left:
        number = least_number(left)
        colour = colour_at(field, number, ground, inked)
        yield (colour, sets.listed[number])
        left = left & ~showing(sets, patches, colour)


def opened_for(row, ground, wanted, *, inked=False):
    """Return the least set of open masks that gives the wanted colour, or None."""
    sets = Sets(row.masks)
    fits = _fitting(sets, row, ground, wanted, inked)
    if fits == 0:
        return None
    return sets.listed[least_number(fits)]


def last_passes(row, ground, seen, *, inked=False):
    """Return the indexes that the last pass that takes may have, -1 for no pass."""
    parts = Parts(row)
    left = showing(parts.sets, shown(parts.sets, parts.whole, ground, inked), seen)
    if left == 0:
        raise CannotCome(0)
    found = []
    for number in range(len(row) - 1, -1, -1):
        taking = _taking(parts, number, row[number], inked)
        if left & taking:
            found.append(number)
        left = left & ~taking
    # At the sets that are left now no pass takes at all.
    if left:
        found.append(-1)
    return found[::-1]


def masks_told(*prints, inked=False):
    """Return what some prints of one spot tell of each mask of their rows."""
    names = sorted({name for row, _, _ in prints for name in row.masks})
    check_many(names)
    sets = Sets(names)
    fits = sets.whole
    for place, (row, ground, seen) in enumerate(prints):
        fits = fits & _fitting(sets, row, ground, seen, inked)
        if fits == 0:
            raise CannotCome(place)
    return {name: side_told(sets, name, fits) for name in names}


def _fitting(sets, row, ground, seen, inked):
    """Return the patch of the sets at which the row gives the colour seen."""
    field = row_field(sets, row.passes)
    return showing(sets, shown(sets, field, ground, inked), seen)


def _taking(parts, number, one, inked):
    """Return the patch of the sets at which the pass with this index takes."""
    where = parts.sets.literal(one.mask, one.around)
    _, _, marks = effect_for(parts.starts[number], inked)
    if one.ink.takes == "bare":
        return where & ~marks
    if one.ink.takes == "inked":
        return where & marks
    return where
