"""Inks: what one pass does to a spot where it prints."""

from laidink.errors import InvalidInk, InvalidTakes
from laidink.films import Film
from laidink.light import Light


class Ink:
    """An ink that takes some bands away, adds others and leaves the rest."""

    TAKES = ("any", "bare", "inked")

    def __init__(self, off, on, *, takes="any"):
        shared = off & on
        if shared:
            raise InvalidInk(shared.bands[0])
        if takes not in Ink.TAKES:
            raise InvalidTakes(takes)
        self.off = off
        self.on = on
        self.takes = takes

    def writes(self):
        """Return the light of all bands that the ink takes away or adds."""
        return self.off | self.on

    def film(self):
        """Return the film of one pass with the ink."""
        bare = inked = (self.off, self.on, True)
        nothing = Film.nothing()
        if self.takes == "inked":
            bare = nothing.bare
        if self.takes == "bare":
            inked = nothing.inked
        return Film(bare, inked)

    def told(self):
        """Return the written form of the ink."""
        return _with_condition(f"ink {self.off} {self.on}", self.takes)

    def __eq__(self, other):
        return (
            isinstance(other, Ink) and self.off == other.off and self.on == other.on and self.takes == other.takes
        )


class Filter(Ink):
    """An ink that takes the bands of a light away."""

    def __init__(self, light, *, takes="any"):
        super().__init__(light, Light(), takes=takes)

    def told(self):
        """Return the written form of the ink."""
        return _with_condition(f"filter {self.off}", self.takes)


class Opaque(Ink):
    """An ink that adds the bands of a light and takes all others away."""

    def __init__(self, light, *, takes="any"):
        super().__init__(~light, light, takes=takes)

    def told(self):
        """Return the written form of the ink."""
        return _with_condition(f"opaque {self.on}", self.takes)


class Bleach(Ink):
    """An ink that adds the bands of a light."""

    def __init__(self, light, *, takes="any"):
        super().__init__(Light(), light, takes=takes)

    def told(self):
        """Return the written form of the ink."""
        return _with_condition(f"bleach {self.on}", self.takes)


def mixed(*inks):
    """Return the ink that some inks give if they are mixed in one pot."""
    off = Light()
    on = Light()
    takes = "any"
    if inks:
        takes = inks[0].takes
    for ink in inks:
        if ink.takes != takes:
            raise InvalidTakes(ink.takes)
        off = off | ink.off
        on = on | ink.on
    # A band that one of the inks takes away is lost in the pot.
    return Ink(off, on - off, takes=takes)


def laid(*inks):
    """Return the film of some inks laid over one another in this order."""
    film = Film.nothing()
    for ink in inks:
        film = film + ink.film()
    return film


def _with_condition(words, takes):
    if takes == "any":
        return words
    return f"{words} {takes}"
