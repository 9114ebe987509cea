"""Charts: the one plainest form of what a row does at all spots."""

from laidink.effects import film_of
from laidink.fields import Sets, effect_at, row_field


class Chart:
    """A leaf with a film, or a fork into two charts at a mask."""

    def __init__(self, mask, leaf, when_shut, when_open):
        self.mask = mask
        self.leaf = leaf
        self.when_shut = when_shut
        self.when_open = when_open

    @staticmethod
    def end(film):
        """Return a leaf."""
        return Chart(None, film, None, None)

    @staticmethod
    def fork(mask, when_shut, when_open):
        """Return a fork: a chart for each side of the mask."""
        return Chart(mask, None, when_shut, when_open)

    @property
    def size(self):
        """The number of leaves."""
        if self.mask is None:
            return 1
        return self.when_shut.size + self.when_open.size

    def film_at(self, opened):
        """Return the film of the leaf to which the open masks lead."""
        chart = self
        while chart.mask is not None:
            if chart.mask in opened:
                chart = chart.when_open
            else:
                chart = chart.when_shut
        return chart.leaf

    def leaves(self):
        """Yield the path and the film of each leaf, shut charts first."""
        if self.mask is None:
            yield ((), self.leaf)
        else:
            for path, film in self.when_shut.leaves():
                yield (((self.mask, False), *path), film)
            for path, film in self.when_open.leaves():
                yield (((self.mask, True), *path), film)

    def is_plain(self):
        """Return True if the masks ascend and no fork has two equal charts."""
        return _is_plain_behind(None, self)

    def __eq__(self, other):
        return (
            isinstance(other, Chart)
            and self.mask == other.mask
            and self.leaf == other.leaf
            and self.when_shut == other.when_shut
            and self.when_open == other.when_open
        )


def chart_of(row):
    """Return the plain chart that does what the row does."""
    sets = Sets(row.masks)
    bare, inked = row_field(sets, row.passes)
    films = {
        opened: film_of(effect_at(bare, number), effect_at(inked, number))
        for number, opened in enumerate(sets.listed)
    }
    return _chart_for((), row.masks, films)


def _chart_for(opened, names, films):
    """Return the plain chart for the spots at which these masks are open.

    Of the masks that come later, the names, nothing is known.
    """
    if not names:
        return Chart.end(films[opened])
    when_shut = _chart_for(opened, names[1:], films)
    when_open = _chart_for((*opened, names[0]), names[1:], films)
    if when_shut == when_open:
        return when_shut
    return Chart.fork(names[0], when_shut, when_open)


def _is_plain_behind(mask, chart):
    """Return True if the chart is plain and its masks come after the mask."""
    if chart.mask is None:
        return True
    if mask is not None and chart.mask <= mask:
        return False
    if chart.when_shut == chart.when_open:
        return False
    return _is_plain_behind(chart.mask, chart.when_shut) and _is_plain_behind(chart.mask, chart.when_open)
