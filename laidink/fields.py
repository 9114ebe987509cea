"""Fields: what passes do at all sets of open masks at once.

The sets of open masks are numbered in their order. A patch is an integer; its
bit k is 1 if something holds at the set with the number k. An effect in patches
is a triple (offs, ons, marks): a patch for each band that becomes off, a patch
for each band that becomes on, and the patch of the sets at which the spot is
inked afterwards. A field is a pair of such effects, for a bare start and for an
inked start. So a few operations on integers answer for all sets. Two fields
are equal exactly if their films are equal at every set.
"""

from laidink.light import Light

# One empty patch for each band.
NO_PATCHES = (0, 0, 0, 0, 0, 0)


class Sets:
    """All sets of open masks of some masks, whose names ascend."""

    def __init__(self, names):
        self.names = tuple(names)
        self.listed = ordered_sets(self.names)
        self.whole = (1 << len(self.listed)) - 1
        self.patches = {name: _patch_of(name, self.listed) for name in self.names}

    def literal(self, mask, around):
        """Return the patch of the sets at which a pass with this side takes part."""
        if mask is None:
            return self.whole
        if around:
            return self.whole & ~self.patches[mask]
        return self.patches[mask]


def ordered_sets(names):
    """Return the list of all sets of some ascending names, in their order."""
    found = [()]
    for name in names:
        found = found + [(*one, name) for one in found]
    return sorted(found, key=_set_order)


def still_field(sets):
    """Return the field that changes nothing at any set."""
    return ((NO_PATCHES, NO_PATCHES, 0), (NO_PATCHES, NO_PATCHES, sets.whole))


def pass_field(sets, one):
    """Return the field of one pass."""
    where = sets.literal(one.mask, one.around)
    offs = _patches_for(one.ink.off, where)
    ons = _patches_for(one.ink.on, where)
    bare, inked = still_field(sets)
    if one.ink.takes != "inked":
        bare = (offs, ons, where)
    if one.ink.takes != "bare":
        inked = (offs, ons, sets.whole)
    return (bare, inked)


def row_field(sets, passes):
    """Return the field of some passes in their order."""
    field = still_field(sets)
    for one in passes:
        field = followed(field, pass_field(sets, one))
    return field


def followed(first, second):
    """Return the field of a field that is followed by another one."""
    bare, inked = first
    return (_effect_then(bare, second), _effect_then(inked, second))


def parted(first, second, ground, inked):
    """Return the patch of the sets at which two fields leave different states.

    Only starts with this ground and this inked count; None stands for any.
    """
    found = 0
    if inked is not True:
        found = found | _differing(first[0], second[0], ground)
    if inked is not False:
        found = found | _differing(first[1], second[1], ground)
    return found


def least_number(patch):
    """Return the number of the first set of a patch that is not empty."""
    return (patch & -patch).bit_length() - 1


def has_number(patch, number):
    """Return True if the set with this number is in the patch."""
    return ((patch >> number) & 1) == 1


def effect_at(effect, number):
    """Return the effect, in numbers of lights, at the set with this number."""
    offs, ons, marks = effect
    return (_light_number(offs, number), _light_number(ons, number), has_number(marks, number))


def _light_number(patches, number):
    light = 0
    for band, patch in enumerate(patches):
        if has_number(patch, number):
            light = light | (1 << band)
    return light


def _set_order(names):
    return (len(names), names)


def _patch_of(name, listed):
    patch = 0
    for number, opened in enumerate(listed):
        if name in opened:
            patch = patch | (1 << number)
    return patch


def _patches_for(light, where):
    return tuple([where if band in light else 0 for band in range(Light.BANDS)])


def _effect_then(effect, field):
    """Return the effect, in patches, of an effect that is followed by a field."""
    offs, ons, marks = effect
    (bare_offs, bare_ons, bare_marks), (inked_offs, inked_ons, _) = field
    new_offs = []
    new_ons = []
    for band in range(Light.BANDS):
        # The field meets each spot as the effect left it: bare or inked.
        off = (bare_offs[band] & ~marks) | (inked_offs[band] & marks)
        on = (bare_ons[band] & ~marks) | (inked_ons[band] & marks)
        new_offs.append((offs[band] & ~on) | off)
        new_ons.append((ons[band] & ~off) | on)
    return (tuple(new_offs), tuple(new_ons), marks | bare_marks)


def _differing(first, second, ground):
    """Return the patch of the sets at which two effects differ on the ground."""
    offs, ons, marks = first
    other_offs, other_ons, other_marks = second
    found = marks ^ other_marks
    for band in range(Light.BANDS):
        # A band of the ground shows what is taken away, a missing one what is added.
        if ground is None or band in ground:
            found = found | (offs[band] ^ other_offs[band])
        if ground is None or band not in ground:
            found = found | (ons[band] ^ other_ons[band])
    return found
