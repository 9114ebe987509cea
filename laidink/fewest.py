"""The shortest row of some inks that prints like a row."""

from laidink.errors import TooLong, TooManyMasks
from laidink.fields import Sets, followed, pass_field, row_field, still_field
from laidink.rows import Pass, Row

MOST_PASSES = 3
MOST_MASKS = 2


def fewest_row(row, inks, *, most=3):
    """Return the first row of the inks that prints like the row, or None."""
    if most > MOST_PASSES:
        raise TooLong(most)
    if len(row.masks) > MOST_MASKS:
        raise TooManyMasks(len(row.masks))
    sets = Sets(row.masks)
    whole = row_field(sets, row.passes)
    menu = [(one, pass_field(sets, one)) for one in _menu_of(row.masks, inks)]
    tried = [((), still_field(sets))]
    for many in range(most + 1):
        if many > 0:
            tried = _longer(tried, menu)
        for passes, field in tried:
            if field == whole:
                return Row.of(passes)
    return None


def _menu_of(masks, inks):
    """Return all passes that may stand in the row, in the order in which they are tried."""
    sides = [(None, False)] + [(mask, around) for mask in masks for around in (False, True)]
    return [Pass(mask, ink, around=around) for mask, around in sides for ink in inks]


def _longer(tried, menu):
    """Return the rows with one more pass, as passes and fields, in the order of the menu."""
    return [
        ((*passes, one), followed(before, field))
        for passes, before in tried
        for one, field in menu
    ]
