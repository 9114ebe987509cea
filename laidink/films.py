"""Films: what a row of passes does at one spot."""

from laidink.light import Light, check_band


class Film:
    """A map from states to states, with one effect for each kind of start.

    An effect is a triple (off, on, marked). Its lights off and on share no
    band, so two films are the same map exactly if their effects are equal.
    """

    def __init__(self, bare, inked):
        self.bare = bare
        self.inked = inked

    @classmethod
    def nothing(cls):
        """Return the film that changes no state."""
        return cls((Light(), Light(), False), (Light(), Light(), True))

    @property
    def idle(self):
        """True if the film changes no state."""
        marks = self.bare[2]
        return not marks and _writes_nothing(self.bare) and _writes_nothing(self.inked)

    def does(self, band, *, inked=False):
        """Return "off", "on" or "leave": what becomes of the band."""
        check_band(band)
        off, on, _ = _effect_for(self, inked)
        if band in off:
            return "off"
        if band in on:
            return "on"
        return "leave"

    def __call__(self, colour, inked):
        off, on, marked = _effect_for(self, inked)
        return ((colour - off) | on, marked)

    def __add__(self, other):
        return Film(_followed(self.bare, other), _followed(self.inked, other))

    def __eq__(self, other):
        return isinstance(other, Film) and self.bare == other.bare and self.inked == other.inked


def _effect_for(film, inked):
    """Return the effect of the film on a bare or an inked spot."""
    if inked:
        return film.inked
    return film.bare


def _writes_nothing(effect):
    off, on, _ = effect
    return not off and not on


def _followed(effect, film):
    """Return the effect of an effect that is followed by a film."""
    off, on, marked = effect
    # The film meets the spot as the effect left it: bare or inked.
    later_off, later_on, later_marked = _effect_for(film, marked)
    # What the film writes stands; of the rest, what the effect wrote.
    return ((off - later_on) | later_off, (on - later_off) | later_on, later_marked)
