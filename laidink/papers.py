"""Papers: what shows whether two rows print alike."""

from laidink.charts import Chart, chart_of
from laidink.spots import Spot, parting


def paper_for(first, second):
    """Return the paper that says whether the rows print alike."""
    spot = parting(first, second)
    if spot is None:
        return ("alike", chart_of(first))
    return ("parted", spot)


def holds(first, second, paper):
    """Return True if the paper shows what it says of the rows."""
    word, shown = paper
    if word == "alike" and isinstance(shown, Chart):
        return shown == chart_of(first) and shown == chart_of(second)
    if word == "parted" and isinstance(shown, Spot):
        return _print_of(first, shown) != _print_of(second, shown)
    return False


def _print_of(row, spot):
    return row.print_at(spot.opened, spot.ground, inked=spot.inked)
