"""The press: a sheet under print, with undo and redo."""

from laidink.errors import (
    InvalidLimit,
    InvalidPass,
    InvalidRun,
    NothingToRedo,
    NothingToUndo,
    TooLong,
    TooManyMasks,
    UnknownMask,
    WrongSize,
)
from laidink.rows import Row, is_name
from laidink.shapes import same_size

PRESS_LIMIT = 30
GREATEST_LIMIT = 100


class Press:
    """A sheet that is printed step by step through loaded shapes."""

    def __init__(self, sheet, *, limit=PRESS_LIMIT):
        _check_limit(limit, 0)
        self._sheet = sheet
        self._row = Row()
        self._limit = limit
        self._shapes = {}
        # The sheet and the row before each step that stands, and after each
        # undone step; sheets and rows never change, so they may be shared.
        self._before = []
        self._after = []

    @property
    def sheet(self):
        """The sheet after all passes that stand."""
        return self._sheet

    @property
    def row(self):
        """The row of the passes that stand."""
        return self._row

    @property
    def limit(self):
        """The greatest number of passes that may stand."""
        return self._limit

    @limit.setter
    def limit(self, value):
        self.change_limit(value)

    @property
    def steps(self):
        """The number of steps that can be undone."""
        return len(self._before)

    @property
    def undone(self):
        """The number of steps that can be redone."""
        return len(self._after)

    def change_limit(self, value):
        """Change the greatest number of passes that may stand."""
        _check_limit(value, len(self._row))
        self._limit = value

    def load(self, mask, shape):
        """Give a mask a shape."""
        if not is_name(mask):
            raise InvalidPass(mask)
        if not same_size(shape, self._sheet):
            raise WrongSize(mask)
        self._shapes[mask] = shape

    def unload(self, mask):
        """Take the shape of a mask away."""
        self._check_loaded(mask)
        del self._shapes[mask]

    def shape_of(self, mask):
        """Return the shape of a mask."""
        self._check_loaded(mask)
        return self._shapes[mask]

    def lay(self, one):
        """Print a pass as one step."""
        row = self._row_with(self._row, one)
        self._step((one,), row)

    def run(self, *passes):
        """Print some passes as one step."""
        row = self._row_after(passes)
        if passes:
            self._step(passes, row)

    def tried(self, *passes):
        """Return the sheet that a run of the passes would leave."""
        self._row_after(passes)
        if not passes:
            return self._sheet
        return self._sheet_after(passes)

    def undo(self):
        """Take the last step back."""
        if not self._before:
            raise NothingToUndo()
        self._after.append((self._sheet, self._row))
        self._sheet, self._row = self._before.pop()

    def redo(self):
        """Do the step that was undone last again."""
        if not self._after:
            raise NothingToRedo()
        self._before.append((self._sheet, self._row))
        self._sheet, self._row = self._after.pop()

    def twin(self):
        """Return a separate press in the same state."""
        other = Press(self._sheet, limit=self._limit)
        other._row = self._row
        other._shapes = dict(self._shapes)
        other._before = list(self._before)
        other._after = list(self._after)
        return other

    def told(self):
        """Return the lines of the passes that stand."""
        return [_line_of(at + 1, one) for at, one in enumerate(self._row.passes)]

    def _check_loaded(self, mask):
        if mask not in self._shapes:
            raise UnknownMask(mask)

    def _row_with(self, row, one):
        """Return the row with one more pass, if the press takes it there."""
        if one.mask is not None:
            self._check_loaded(one.mask)
        many = len(row) + 1
        if many > self._limit:
            raise TooLong(many)
        return row + one

    def _row_after(self, passes):
        """Return the row that stands after a run of the passes."""
        row = self._row
        for at, one in enumerate(passes):
            try:
                row = self._row_with(row, one)
            except (UnknownMask, TooLong, TooManyMasks) as refused:
                raise InvalidRun(at) from refused
        return row

    def _sheet_after(self, passes):
        return self._sheet.printed(Row.of(passes), self._shapes)

    def _step(self, passes, row):
        """Print the passes, after which this row stands, as one step."""
        sheet = self._sheet_after(passes)
        self._before.append((self._sheet, self._row))
        self._after = []
        self._sheet = sheet
        self._row = row


def _check_limit(value, standing):
    """Raise InvalidLimit if a press on which so many passes stand cannot have the limit."""
    if value < 1 or value > GREATEST_LIMIT or value < standing:
        raise InvalidLimit(value)


def _line_of(number, one):
    """Return the line of a pass, counted from 1."""
    mask = "all" if one.mask is None else one.mask
    side = "around" if one.around else ""
    return f"{number:>3} {mask:<6} {side:>6} {one.ink.told()}"
