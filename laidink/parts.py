"""Parts of a row: its fields before, at and behind each pass.

With them a row that is changed at one place needs no second reckoning of all
its passes.
"""

from laidink.fields import Sets, followed, pass_field, still_field


class Parts:
    """The fields of the single passes of a row, of its starts and of its rests.

    The start with the number k is the first k passes; the rest with the number
    k is all passes behind them.
    """

    def __init__(self, row):
        sets = Sets(row.masks)
        fields = [pass_field(sets, one) for one in row.passes]
        starts = [still_field(sets)]
        for field in fields:
            starts.append(followed(starts[-1], field))
        rests = [still_field(sets)]
        for field in fields[::-1]:
            rests.append(followed(field, rests[-1]))
        self.sets = sets
        self.fields = fields
        self.starts = starts
        self.rests = rests[::-1]
        self.whole = starts[-1]

    def left_out(self, number):
        """Return the field of the row without this pass."""
        return followed(self.starts[number], self.rests[number + 1])

    def again(self, number):
        """Return the field of the row with this pass once more at its end."""
        return followed(self.whole, self.fields[number])

    def swapped(self, number):
        """Return the field of the row with this pass and the next one exchanged."""
        pair = followed(self.fields[number + 1], self.fields[number])
        return followed(followed(self.starts[number], pair), self.rests[number + 2])
