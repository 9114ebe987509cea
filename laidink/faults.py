"""Faults: passes that are left out, printed again or swapped."""

from laidink.errors import NoSuchPass, TooLong
from laidink.parts import Parts
from laidink.prints import colour_at
from laidink.rows import Row


def all_faults(row):
    """Yield every fault of the row."""
    for number in range(len(row)):
        yield ("left out", number)
    for number in range(len(row)):
        yield ("again", number)
    for number in range(len(row) - 1):
        yield ("swapped", number)


def faulty(row, fault):
    """Return the row that is printed with the fault."""
    kind, number = fault
    if kind == "left out":
        return row.without(number)
    if kind == "again":
        return row + row[number]
    # The last pass has no next one to be exchanged with.
    if number < 0 or number > len(row) - 2:
        raise NoSuchPass(number)
    order = list(range(len(row)))
    order[number] = number + 1
    order[number + 1] = number
    return row.reordered(order)


def silent_faults(row):
    """Return the faults with which the row prints like the row."""
    _check_room(row)
    parts = Parts(row)
    return [fault for fault in all_faults(row) if _field_with(parts, fault) == parts.whole]


def faults_told(row, ground, opened, seen, *, inked=False):
    """Return what explains the colour seen at a spot: no fault, or each that gives it."""
    _check_room(row)
    parts = Parts(row)
    number = parts.sets.listed.index(tuple([name for name in row.masks if name in opened]))
    found = []
    if colour_at(parts.whole, number, ground, inked) == seen:
        found.append(("sound", -1))
    for fault in all_faults(row):
        if colour_at(_field_with(parts, fault), number, ground, inked) == seen:
            found.append(fault)
    return found


def _field_with(parts, fault):
    """Return the field of the row that is printed with the fault."""
    kind, number = fault
    if kind == "left out":
        return parts.left_out(number)
    if kind == "again":
        return parts.again(number)
    return parts.swapped(number)


def _check_room(row):
    """Raise TooLong if no pass of the row can be printed again."""
    if len(row) >= Row.LIMIT:
        raise TooLong(len(row) + 1)
