"""Effects in numbers: triples (off, on, marked) with the numbers of lights.

They are what films hold, in a form that is quick to reckon with.
"""

from laidink.films import Film
from laidink.light import Light

# What no pass at all does to a bare and to an inked spot.
BARE = (0, 0, False)
INKED = (0, 0, True)


def inked_over(effect, ink):
    """Return the effect that is followed by one pass with the ink."""
    off, on, marked = effect
    if (ink.takes == "bare" and marked) or (ink.takes == "inked" and not marked):
        return effect
    # What the ink writes stands; of the rest, what the effect wrote.
    later_off = ink.off.number
    later_on = ink.on.number
    return ((off & ~later_on) | later_off, (on & ~later_off) | later_on, True)


def film_of(bare, inked):
    """Return the film that has these effects on a bare and on an inked start."""
    return Film(_in_lights(bare), _in_lights(inked))


def _in_lights(effect):
    off, on, marked = effect
    return (Light.numbered(off), Light.numbered(on), marked)
