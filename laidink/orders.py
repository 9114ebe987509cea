"""Orders in which the passes of a row print alike."""

from laidink.errors import TooLong
from laidink.fields import Sets, followed, pass_field, row_field, still_field
from laidink.parts import Parts

ORDER_LIMIT = 6


def orders(row):
    """Yield, in ascending order, every order whose reordered row prints like the row."""
    if len(row) > ORDER_LIMIT:
        raise TooLong(len(row))
    sets = Sets(row.masks)
    whole = row_field(sets, row.passes)
    for order, field in _fields_of_orders(sets, row.passes):
        if field == whole:
            yield order


def must_stay(row):
    """Return the pairs of passes that stand in the same sequence in all these orders."""
    found = list(orders(row))
    numbers = range(len(row))
    return [
        (first, second)
        for first in numbers
        for second in numbers
        if first < second and all([order.index(first) < order.index(second) for order in found])
    ]


def swaps(row):
    """Return the indexes of the passes that may change places with the next one."""
    parts = Parts(row)
    return [number for number in range(len(row) - 1) if parts.swapped(number) == parts.whole]


def _fields_of_orders(sets, passes):
    """Return every order of the passes, in ascending order, with its field."""
    fields = [pass_field(sets, one) for one in passes]
    found = [((), still_field(sets))]
    for _ in fields:
        # Longer starts of orders stand in the sequence of the shorter ones.
        found = [
            ((*order, number), followed(before, field))
            for order, before in found
            for number, field in enumerate(fields)
            if number not in order
        ]
    return found
