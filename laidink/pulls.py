"""Pulled sheets: the colours of spots at some moments of a row."""

from laidink.errors import NoSuchPass, TooLong
from laidink.fields import least_number, ordered_sets
from laidink.parts import Parts
from laidink.prints import shown

PULL_LIMIT = 8


def confused(row, ground, moments, *, inked=False):
    """Return the first two sets that show the same colours at the moments, or None."""
    for moment in moments:
        if moment < 0 or moment > len(row):
            raise NoSuchPass(moment)
    parts = Parts(row)
    groups = _groups_of(parts, _views_of(parts, ground, inked), sorted(set(moments)))
    if not groups:
        return None
    group = min(groups, key=least_number)
    one = least_number(group)
    other = least_number(_without_first(group))
    return (parts.sets.listed[one], parts.sets.listed[other])


def fewest_pulls(row, ground, *, inked=False):
    """Return the fewest moments that leave no two sets confused, or None."""
    if len(row) > PULL_LIMIT:
        raise TooLong(len(row))
    parts = Parts(row)
    views = _views_of(parts, ground, inked)
    # The order of sets of masks is the one in which the moments are tried, too.
    for moments in ordered_sets(list(range(len(row) + 1))):
        if not _groups_of(parts, views, moments):
            return moments
    return None


def _views_of(parts, ground, inked):
    """Return, for each moment, the patches of the bands that a pulled sheet shows."""
    return [shown(parts.sets, start, ground, inked) for start in parts.starts]


def _groups_of(parts, views, moments):
    """Return a patch for each two or more sets that look alike at all the moments."""
    groups = _of_several([parts.sets.whole])
    for moment in moments:
        for patch in views[moment]:
            halves = [half for group in groups for half in (group & patch, group & ~patch)]
            groups = _of_several(halves)
    return groups


def _of_several(patches):
    """Return those of the patches that have two sets or more."""
    return [patch for patch in patches if _without_first(patch)]


def _without_first(patch):
    """Return the patch without its first set."""
    return patch & (patch - 1)
