"""Prints: what fields make of spots with a told ground, at all sets of open masks.

What a field shows is a list of six patches: for each band the sets of open
masks at which the spot has the band afterwards.
"""

from laidink.fields import effect_at
from laidink.light import Light


def effect_for(field, inked):
    """Return the effect, in patches, of the field on a bare or on an inked start."""
    bare, marked = field
    return marked if inked else bare


def shown(sets, field, ground, inked):
    """Return, for each band, the patch of the sets at which the spot has it."""
    offs, ons, _ = effect_for(field, inked)
    return [sets.whole & ~offs[band] if band in ground else ons[band] for band in range(Light.BANDS)]


def showing(sets, patches, colour):
    """Return the patch of the sets at which the spot has exactly this colour."""
    found = sets.whole
    for band, patch in enumerate(patches):
        found = found & (patch if band in colour else ~patch)
    return found


def colour_at(field, number, ground, inked):
    """Return the colour of the spot at the set with this number."""
    off, on, _ = effect_at(effect_for(field, inked), number)
    return Light.numbered((ground.number & ~off) | on)


def side_told(sets, mask, fits):
    """Return what the sets that fit, at least one, tell of the mask."""
    patch = sets.literal(mask, False)
    if (fits & ~patch) == 0:
        return "open"
    if (fits & patch) == 0:
        return "shut"
    return "perhaps"
