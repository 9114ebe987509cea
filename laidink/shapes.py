"""Shapes: the open places of a mask on a grid."""

from laidink.errors import InvalidShape, WrongSize

# The greatest width and the greatest height.
SIDE = 40
OPEN = "#"
SHUT = "."


class Shape:
    """A grid of open and shut places."""

    def __init__(self, *lines):
        if not lines:
            raise InvalidShape(0)
        for at, line in enumerate(lines):
            if at >= SIDE or len(line) != len(lines[0]) or not _is_line(line):
                raise InvalidShape(at)
        self.lines = lines
        self.width = len(lines[0])
        self.height = len(lines)

    @classmethod
    def of(cls, lines):
        """Return the shape of the lines in a list or tuple."""
        return cls(*lines)

    @classmethod
    def blank(cls, width, height, *, opened=False):
        """Return a shape whose places are all shut, or all open."""
        _check_size(width, height)
        lines = [(OPEN if opened else SHUT) * width] * height
        return cls(*lines)

    def mirrored(self):
        """Return the shape turned over from left to right."""
        lines = [line[::-1] for line in self.lines]
        return Shape(*lines)

    def tiled(self, width, height):
        """Return a shape of this size that repeats the shape."""
        _check_size(width, height)
        lines = [_repeated(self.lines[y % self.height], width) for y in range(height)]
        return Shape(*lines)

    def area(self):
        """Return the number of open places."""
        return sum([line.count(OPEN) for line in self.lines])

    def __and__(self, other):
        return _laid_together(self, other, ["##"])

    def __or__(self, other):
        return _laid_together(self, other, ["##", "#.", ".#"])

    def __sub__(self, other):
        return _laid_together(self, other, ["#."])

    def __invert__(self):
        lines = [_line_of([sign == SHUT for sign in line]) for line in self.lines]
        return Shape(*lines)

    def __contains__(self, place):
        x, y = place
        if x < 0 or x >= self.width or y < 0 or y >= self.height:
            return False
        return self.lines[y][x] == OPEN

    def __eq__(self, other):
        return isinstance(other, Shape) and self.lines == other.lines


def same_size(one, other):
    """Return True if two shapes, two sheets, or a shape and a sheet have the same size."""
    return one.width == other.width and one.height == other.height


def _is_line(line):
    """Return True if the line has a valid length and no other characters."""
    if len(line) < 1 or len(line) > SIDE:
        return False
    return line.count(OPEN) + line.count(SHUT) == len(line)


def _check_size(width, height):
    """Raise InvalidShape for the first line that makes a shape of this size not valid."""
    if height < 1 or width < 1 or width > SIDE:
        raise InvalidShape(0)
    if height > SIDE:
        raise InvalidShape(SIDE)


def _line_of(places):
    """Return the line of some places, told by True for the open ones."""
    return "".join([OPEN if is_open else SHUT for is_open in places])


def _repeated(line, width):
    return "".join([line[x % len(line)] for x in range(width)])


def _laid_together(one, other, opened):
    """Return the shape of the places at which the signs of both are an opened pair."""
    if not same_size(one, other):
        raise WrongSize(None)
    lines = [
        _line_of([sign + beside in opened for sign, beside in zip(line, below)])
        for line, below in zip(one.lines, other.lines)
    ]
    return Shape(*lines)
