"""Rows told in plain numbers, and answers that are found by trying everything.

A plan is a list of steps, a step tells one pass. What a plan does is reckoned
here by the words of the document, without the program. Colours are numbers.
"""

import itertools
import random
from collections import namedtuple

from laidink.inks import Bleach, Filter, Ink, Opaque
from laidink.light import Light
from laidink.rows import Pass, Row

Step = namedtuple("Step", "mask around kind off on takes")

TAKES = ["any", "bare", "inked"]
KINDS = ["ink", "filter", "opaque", "bleach"]
STARTS = [False, True]
NAMES = ["a", "b", "c", "d", "e", "f", "g", "h", "i", "j"]


def number_of(bands):
    return sum(2 ** band for band in bands)


# The 64 colours in the order of point 6.
COLOURS = [
    number_of(bands) for size in range(7) for bands in itertools.combinations(range(6), size)
]


def pairs_of_lights(bands):
    """All pairs of lights off and on of these bands that share no band."""
    found = []
    for words in itertools.product(["leave", "off", "on"], repeat=len(bands)):
        off = [band for band, word in zip(bands, words) if word == "off"]
        on = [band for band, word in zip(bands, words) if word == "on"]
        found.append((Light(*off), Light(*on)))
    return found


def all_sets(names):
    """All sets of the names as ascending tuples, in the order of point 22."""
    names = sorted(set(names))
    return [one for size in range(len(names) + 1) for one in itertools.combinations(names, size)]


def step(mask, kind, *lights, around=False, takes="any"):
    """A step whose lights are given as lists of bands."""
    numbers = [number_of(light) for light in lights]
    if kind == "ink":
        off, on = numbers
    elif kind == "filter":
        off, on = numbers[0], 0
    elif kind == "bleach":
        off, on = 0, numbers[0]
    else:
        off, on = 63 - numbers[0], numbers[0]
    return Step(mask, around, kind, off, on, takes)


def ink_of(one):
    off, on = Light.numbered(one.off), Light.numbered(one.on)
    if one.kind == "ink":
        return Ink(off, on, takes=one.takes)
    if one.kind == "filter":
        return Filter(off, takes=one.takes)
    return (Opaque if one.kind == "opaque" else Bleach)(on, takes=one.takes)


def pass_of(one):
    return Pass(one.mask, ink_of(one), around=one.around)


def row_of(plan):
    return Row(*[pass_of(one) for one in plan])


def masks_of(*plans):
    return sorted({one.mask for plan in plans for one in plan if one.mask is not None})


def takes_part(one, opened):
    return one.mask is None or (one.mask in opened) != one.around


def takes_there(one, opened, inked):
    """True if the pass takes part and its ink takes."""
    meant = one.takes == "any" or (one.takes == "inked") == inked
    return takes_part(one, opened) and meant


def states(plan, opened, colour, inked):
    """All states of a spot, from the one before the first pass."""
    found = [(colour, inked)]
    for one in plan:
        if takes_there(one, opened, inked):
            colour, inked = (colour & ~one.off) | one.on, True
        found.append((colour, inked))
    return found


def after(plan, opened, colour, inked):
    return states(plan, opened, colour, inked)[-1]


def least_spot(first, second, ground=None, inked=None):
    """The least spot that parts two plans, as (opened, colour, inked), or None."""
    grounds = COLOURS if ground is None else [ground]
    starts = STARTS if inked is None else [inked]
    for opened in all_sets(masks_of(first, second)):
        for start in starts:
            for colour in grounds:
                if after(first, opened, colour, start) != after(second, opened, colour, start):
                    return (opened, colour, start)
    return None


def print_alike(first, second, ground=None, inked=None):
    return least_spot(first, second, ground, inked) is None


def effect(plan, opened, inked):
    """What becomes of each band, and whether the spot is inked afterwards."""
    black, marked = after(plan, opened, 0, inked)
    white, _ = after(plan, opened, 63, inked)
    words = {(0, 0): "off", (1, 1): "on", (0, 1): "leave"}
    told = [words[black >> band & 1, white >> band & 1] for band in range(6)]
    return (told, marked)


def film_told(film):
    """A film as the two effects that effect() returns."""
    found = []
    for start, (_, _, marked) in [(False, film.bare), (True, film.inked)]:
        found.append(([film.does(band, inked=start) for band in range(6)], marked))
    return found


def effects(plan, opened):
    return [effect(plan, opened, start) for start in STARTS]


def films_told(plan, names):
    """The effects at all sets of these names; they tell what the plan prints there."""
    return [effects(plan, opened) for opened in all_sets(names)]


def shown(plan, opened, ground, inked):
    """The colour that a plan leaves."""
    return after(plan, opened, ground, inked)[0]


def sets_showing(plan, names, ground, seen, inked):
    """The sets of these names at which the plan leaves the colour seen."""
    return [opened for opened in all_sets(names) if shown(plan, opened, ground, inked) == seen]


def side_told(name, fits, words):
    """The word for a mask that is open, shut or perhaps open in the sets that fit."""
    sides = {name in opened for opened in fits}
    return words[2] if len(sides) == 2 else words[0] if True in sides else words[1]


def state_told(state):
    colour, inked = state
    return (colour.number, inked)


def spot_told(spot):
    return None if spot is None else (spot.opened, spot.ground.number, spot.inked)


def some_step(dice, names, *, bands=6, takes=TAKES, sides=STARTS, kinds=KINDS):
    """A step at random, with lights of the first bands."""
    mask = dice.choice([None, *names])
    around = mask is not None and dice.choice(sides)
    lights = dice.randrange(2 ** bands), dice.randrange(2 ** bands)
    kind = dice.choice(kinds)
    condition = dice.choice(takes)
    if kind == "ink":
        return Step(mask, around, kind, lights[0], lights[1] & ~lights[0], condition)
    if kind == "filter":
        return Step(mask, around, kind, lights[0], 0, condition)
    if kind == "bleach":
        return Step(mask, around, kind, 0, lights[0], condition)
    return Step(mask, around, kind, 63 - lights[0], lights[0], condition)


def some_plan(dice, length, names, **more):
    return [some_step(dice, names, **more) for _ in range(length)]


def some_plans(seed, many, length, names, **more):
    """Plans at random, of up to this length; the same ones for the same seed."""
    dice = random.Random(seed)
    return [some_plan(dice, dice.randrange(length + 1), names, **more) for _ in range(many)]


def changed(dice, plan, names, **more):
    """A plan that is nearly the same, and often prints alike."""
    plan = list(plan)
    what = dice.choice(["swap", "drop", "add", "again"])
    at = dice.randrange(len(plan) + 1)
    if what == "swap" and at + 1 < len(plan):
        plan[at], plan[at + 1] = plan[at + 1], plan[at]
    elif what == "drop":
        del plan[at:at + 1]
    elif what == "add":
        plan.insert(at, some_step(dice, names, **more))
    elif plan:
        plan.append(dice.choice(plan))
    return plan
