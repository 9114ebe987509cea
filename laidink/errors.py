"""The errors of the program, each of them directly below PrintError."""


class PrintError(ValueError):
    """The base class of all errors that the program raises."""


class InvalidBand(PrintError):
    """A number that is no band, or no number of a light."""

    def __init__(self, band):
        super().__init__(f"{band} is out of range")
        self.band = band


class InvalidInk(PrintError):
    """An ink that takes a band away and adds it, too."""

    def __init__(self, band):
        super().__init__(f"the ink takes band {band} away and adds it")
        self.band = band


class InvalidTakes(PrintError):
    """A condition that no ink has, or that does not go with the other inks."""

    def __init__(self, takes):
        super().__init__(f"the condition {takes!r} is refused")
        self.takes = takes


class InvalidPass(PrintError):
    """A mask that no pass can have."""

    def __init__(self, mask):
        super().__init__(f"no pass has the mask {mask!r}")
        self.mask = mask


class NoSuchPass(PrintError):
    """An index or a moment that the row does not have."""

    def __init__(self, number):
        super().__init__(f"the row has no pass {number}")
        self.number = number


class NotAnOrder(PrintError):
    """Indexes that are no order of the passes."""

    def __init__(self):
        super().__init__("this is no order of the passes")


class TooLong(PrintError):
    """More passes than are allowed."""

    def __init__(self, many):
        super().__init__(f"{many} passes are too many")
        self.many = many


class TooManyMasks(PrintError):
    """More masks than are allowed."""

    def __init__(self, many):
        super().__init__(f"{many} masks are too many")
        self.many = many


class Conditional(PrintError):
    """A pass whose ink does not take always."""

    def __init__(self, number):
        super().__init__(f"the ink of pass {number} does not take always")
        self.number = number


class CannotCome(PrintError):
    """A colour that the row cannot leave."""

    def __init__(self, place):
        super().__init__(f"the colour at {place} cannot come")
        self.place = place


class InvalidShape(PrintError):
    """A line that no shape has."""

    def __init__(self, line):
        super().__init__(f"line {line} of the shape is not valid")
        self.line = line


class WrongSize(PrintError):
    """Two sizes that differ and should be the same."""

    def __init__(self, mask):
        super().__init__(f"the sizes differ (mask {mask!r})")
        self.mask = mask


class UnknownMask(PrintError):
    """A mask that has no shape."""

    def __init__(self, mask):
        super().__init__(f"the mask {mask!r} has no shape")
        self.mask = mask


class UnknownPlace(PrintError):
    """A place outside the sheet."""

    def __init__(self, x, y):
        super().__init__(f"the sheet has no place ({x}, {y})")
        self.x = x
        self.y = y


class InvalidText(PrintError):
    """A line that is not the written form of a pass."""

    def __init__(self, line):
        super().__init__(f"line {line} of the text is not valid")
        self.line = line


class NothingToUndo(PrintError):
    """No step is left that can be taken back."""

    def __init__(self):
        super().__init__("there is no step to undo")


class NothingToRedo(PrintError):
    """No undone step is left."""

    def __init__(self):
        super().__init__("there is no step to redo")


class InvalidLimit(PrintError):
    """A limit that a press cannot have."""

    def __init__(self, worth):
        super().__init__(f"the limit cannot be {worth}")
        self.worth = worth


class InvalidRun(PrintError):
    """A run with a pass that the press refuses."""

    def __init__(self, number):
        super().__init__(f"pass {number} of the run is refused")
        self.number = number
