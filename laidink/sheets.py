"""Sheets: what is printed on, and what printed sheets tell."""

from math import lcm

from laidink.errors import CannotCome, UnknownMask, UnknownPlace, WrongSize
from laidink.fields import Sets, effect_at, row_field
from laidink.light import Light, light_order
from laidink.prints import showing, shown, side_told
from laidink.shapes import same_size

SIGNS = {"open": "#", "shut": ".", "perhaps": "?"}


class Sheet:
    """A grid of places, each with a state."""

    def __init__(self, width, height, ground, *, inked=False):
        line = ((ground.number, inked),) * width
        self.width = width
        self.height = height
        # The states line by line, each with its colour as a number.
        self._lines = (line,) * height

    def at(self, x, y):
        """Return the state of a place."""
        if x < 0 or x >= self.width or y < 0 or y >= self.height:
            raise UnknownPlace(x, y)
        colour, inked = self._lines[y][x]
        return (Light.numbered(colour), inked)

    def printed(self, row, shapes):
        """Return the sheet after the row, printed through the shapes of its masks."""
        _check_known(row, shapes)
        for mask in row.masks:
            if not same_size(shapes[mask], self):
                raise WrongSize(mask)
        return _printed(self, row, shapes)

    def mirrored(self):
        """Return the sheet turned over from left to right."""
        return _with_lines(self, [line[::-1] for line in self._lines])

    def counts(self):
        """Return each colour of the sheet with the number of its places."""
        found = {}
        for line in self._lines:
            for colour, _ in line:
                found[colour] = found.get(colour, 0) + 1
        lights = sorted([Light.numbered(colour) for colour in found], key=light_order)
        return [(light, found[light.number]) for light in lights]

    def __eq__(self, other):
        return (
            isinstance(other, Sheet)
            and self.width == other.width
            and self.height == other.height
            and self._lines == other._lines
        )


def shares(row, screens, ground, *, inked=False):
    """Return how many places of one common period of the screens have each colour."""
    _check_known(row, screens)
    width = 1
    height = 1
    for mask in row.masks:
        width = lcm(width, screens[mask].width)
        height = lcm(height, screens[mask].height)
    period = Sheet(width, height, ground, inked=inked)
    return _printed(period, row, screens).counts()


def shapes_told(row, before, after):
    """Return what a printed sheet tells of the shape of each mask of the row."""
    if not same_size(before, after):
        raise WrongSize(None)
    sets = Sets(row.masks)
    field = row_field(sets, row.passes)
    # Many places look the same, so what a look tells is found out once.
    known = {}
    lines = []
    for y in range(before.height):
        line = []
        for x in range(before.width):
            colour, inked = before._lines[y][x]
            seen, _ = after._lines[y][x]
            look = (colour, inked, seen)
            if look not in known:
                known[look] = _signs_told(sets, field, look)
            if known[look] is None:
                raise CannotCome((x, y))
            line.append(known[look])
        lines.append(line)
    return {mask: _lines_told(lines, at) for at, mask in enumerate(row.masks)}


def _check_known(row, shapes):
    """Raise UnknownMask for the least mask of the row that has no shape."""
    for mask in row.masks:
        if mask not in shapes:
            raise UnknownMask(mask)


def _printed(sheet, row, shapes):
    """Return the sheet after the row, with the shapes repeated for ever."""
    sets = Sets(row.masks)
    bare, inked = row_field(sets, row.passes)
    effects = {
        opened: (effect_at(bare, number), effect_at(inked, number))
        for number, opened in enumerate(sets.listed)
    }
    lines = []
    for y, line in enumerate(sheet._lines):
        places = [_opened_at(row.masks, shapes, x, y) for x in range(sheet.width)]
        lines.append(tuple([_state_after(effects[opened], state) for opened, state in zip(places, line)]))
    return _with_lines(sheet, lines)


def _with_lines(sheet, lines):
    """Return a sheet of the same size with these lines of states."""
    found = Sheet(sheet.width, sheet.height, Light())
    found._lines = tuple(lines)
    return found


def _opened_at(masks, shapes, x, y):
    """Return the masks that are open at a place."""
    found = []
    for mask in masks:
        shape = shapes[mask]
        if (x % shape.width, y % shape.height) in shape:
            found.append(mask)
    return tuple(found)


def _state_after(effects, state):
    """Return the state that the effects on a bare and on an inked spot make of a state."""
    bare, marked = effects
    colour, inked = state
    off, on, inked_after = marked if inked else bare
    return ((colour & ~off) | on, inked_after)


def _signs_told(sets, field, look):
    """Return the sign for each mask that a look tells, or None if no set fits."""
    colour, inked, seen = look
    patches = shown(sets, field, Light.numbered(colour), inked)
    fits = showing(sets, patches, Light.numbered(seen))
    if fits == 0:
        return None
    return [SIGNS[side_told(sets, name, fits)] for name in sets.names]


def _lines_told(lines, at):
    """Return the lines of the mask whose sign stands at this index for each place."""
    return tuple(["".join([signs[at] for signs in line]) for line in lines])
