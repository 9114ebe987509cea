"""Passes through masks, and rows of them."""

from laidink.effects import BARE, INKED, film_of, inked_over
from laidink.errors import InvalidPass, NoSuchPass, NotAnOrder, TooLong, TooManyMasks
from laidink.films import Film

LETTERS = "abcdefghijklmnopqrstuvwxyz"
NAME_LENGTH = 6


class Pass:
    """One print of an ink through a mask, around it or on the whole sheet."""

    def __init__(self, mask, ink, *, around=False):
        if mask is None:
            if around:
                raise InvalidPass(mask)
        elif not is_name(mask):
            raise InvalidPass(mask)
        self.mask = mask
        self.ink = ink
        self.around = around

    def takes_part(self, opened):
        """Return True if the pass prints at a spot with these open masks."""
        if self.mask is None:
            return True
        return (self.mask in opened) != self.around

    def film_at(self, opened):
        """Return the film of the pass at a spot with these open masks."""
        if self.takes_part(opened):
            return self.ink.film()
        return Film.nothing()

    def told(self):
        """Return the written form of the pass."""
        if self.mask is None:
            return f"all {self.ink.told()}"
        if self.around:
            return f"around {self.mask} {self.ink.told()}"
        return f"on {self.mask} {self.ink.told()}"

    def __eq__(self, other):
        return (
            isinstance(other, Pass)
            and self.mask == other.mask
            and self.around == other.around
            and self.ink == other.ink
        )


class Row:
    """A row of passes, the first printed first."""

    LIMIT = 200
    MASKS = 8

    def __init__(self, *passes):
        if len(passes) > Row.LIMIT:
            raise TooLong(len(passes))
        masks = sorted({one.mask for one in passes if one.mask is not None})
        if len(masks) > Row.MASKS:
            raise TooManyMasks(len(masks))
        self.passes = passes
        self.masks = tuple(masks)

    @classmethod
    def of(cls, passes):
        """Return the row of the passes in a list or tuple."""
        return cls(*passes)

    def without(self, *numbers):
        """Return the row without the passes at these indexes."""
        for number in numbers:
            check_number(self, number)
        kept = [one for at, one in enumerate(self.passes) if at not in numbers]
        return Row(*kept)

    def reordered(self, order):
        """Return the row whose k-th pass is the pass with the index order[k]."""
        if sorted(order) != list(range(len(self.passes))):
            raise NotAnOrder()
        moved = [self.passes[at] for at in order]
        return Row(*moved)

    def film_at(self, opened):
        """Return the film of the row at a spot with these open masks."""
        bare = BARE
        inked = INKED
        for one in self.passes:
            if one.takes_part(opened):
                bare = inked_over(bare, one.ink)
                inked = inked_over(inked, one.ink)
        return film_of(bare, inked)

    def print_at(self, opened, ground, *, inked=False):
        """Return the state of a spot after the row."""
        film = self.film_at(opened)
        return film(ground, inked)

    def moments(self, opened, ground, *, inked=False):
        """Yield the states of a spot before the first pass and after each pass."""
        # The caller may change the list between two states.
        names = tuple(opened)
        colour = ground
        yield (colour, inked)
        for one in self.passes:
            film = one.film_at(names)
            colour, inked = film(colour, inked)
            yield (colour, inked)

    def told(self):
        """Return the written form of the row."""
        return "\n".join([one.told() for one in self.passes])

    def __add__(self, other):
        if isinstance(other, Pass):
            return Row(*self.passes, other)
        return Row(*self.passes, *other.passes)

    def __eq__(self, other):
        return isinstance(other, Row) and self.passes == other.passes

    def __len__(self):
        return len(self.passes)

    def __getitem__(self, at):
        check_number(self, at)
        return self.passes[at]

    def __iter__(self):
        return iter(self.passes)


def is_name(mask):
    """Return True if the string is a valid name of a mask."""
    if len(mask) < 1 or len(mask) > NAME_LENGTH:
        return False
    return all([letter in LETTERS for letter in mask])


def check_number(row, number):
    """Raise NoSuchPass if the row has no pass with this index."""
    if number < 0 or number >= len(row.passes):
        raise NoSuchPass(number)
