"""What the document says of halls and parts, worked out by trying everything, to hold the program against."""

import itertools
import random


def caught(kind, asked, *things):
    """The refusal that asking raises."""
    try:
        asked(*things)
    except kind as refusal:
        return refusal
    raise AssertionError(f"{kind.__name__} was not raised")


def swap(side):
    return side.lower() if side.isupper() else side.upper()


def rising_sides(walls):
    return sorted([side for wall in walls for side in (wall, wall.upper())])


def possible_bars(walls):
    return [one + two for low, high in itertools.combinations(walls, 2)
            for one in (low, low.upper()) for two in (high, high.upper())]


def straight(bars, one, two):
    """Whether one forces two straight."""
    return one + swap(two) in bars or swap(two) + one in bars


def forced_map(walls, bars):
    """Each side with the set of those it forces: the least sets closed under forcing straight."""
    sides = rising_sides(walls)
    forced = {side: {side} for side in sides}
    grown = True
    while grown:
        grown = False
        for side in sides:
            more = {two for one in forced[side] for two in sides if straight(bars, one, two)}
            if not more <= forced[side]:
                forced[side] |= more
                grown = True
    return forced


def rooms(walls, bars):
    """All rooms, rising, as [4] says."""
    tried = ["".join(sides) for sides in itertools.product(*[(wall, wall.upper()) for wall in walls])]
    return sorted(room for room in tried if not any(bar[0] in room and bar[1] in room for bar in bars))


def refusal(walls, bars):
    """("Fixed", side), ("Alike", one, other) or None."""
    forced = forced_map(walls, bars)
    for side in sorted(forced):
        if swap(side) in forced[side]:
            return ("Fixed", side)
    for side in sorted(forced):
        for two in sorted(forced[side]):
            if two.lower() != side.lower() and side in forced[two]:
                return ("Alike", side, two)
    return None


def let_by_rooms(walls, bars):
    """Whether each side is in some room, and no two walls always go together."""
    found = rooms(walls, bars)
    each = all(any(side in room for room in found) for side in rising_sides(walls))
    together = any(len({(one in room) == (two in room) for room in found}) < 2
                   for one, two in itertools.combinations(walls, 2))
    return each and not together


def far(found, room):
    """How many steps lead from a room to each, through doors alone."""
    steps = {room: 0}
    wave = [room]
    while wave:
        later = []
        for one in wave:
            for two in found:
                if two not in steps and sum(a != b for a, b in zip(one, two)) == 1:
                    steps[two] = steps[one] + 1
                    later.append(two)
        wave = later
    return steps


def parts(walls):
    """All texts that tell parts."""
    return ["".join(sides) for sides in itertools.product(*[("", wall, wall.upper()) for wall in walls])]


def subsets(things):
    for many in range(len(things) + 1):
        yield from itertools.combinations(things, many)


def some_halls(walls, many, seed):
    """Walls and bars of some halls that are let by, always the same ones."""
    chance = random.Random(seed)
    bars = possible_bars(walls)
    found = []
    while len(found) < many:
        chosen = chance.sample(bars, chance.randint(0, len(walls) + 2))
        if refusal(walls, chosen) is None:
            found.append((walls, chosen))
    return found


def small_halls():
    """Walls and bars of all halls of one and two walls, and many wider ones, that are let by."""
    found = [("a", ())] + [("bx", bars) for bars in subsets(possible_bars("bx")) if refusal("bx", bars) is None]
    for at, walls in enumerate(("abc", "cmz", "abcd", "fhkz", "abcde")):
        found += some_halls(walls, 12, at)
    return found
