"""Calls as a list of parts: what they write, and which of them are taken from behind."""

from nearcall.errors import TooMany
from nearcall.parts import shut


def shut_calls(hall, calls, most):
    """The shut texts of the calls, by their places."""
    if len(calls) > most:
        raise TooMany(most)
    return [shut(hall, part) for part in calls]


def stray_sides(written, walls, goal):
    """The sides of a shut text that are on none of these walls and are not the goal's."""
    return [side for side in written if side.lower() not in walls and side not in goal]


def is_good(written, walls, goal):
    """Whether a call writes each wall but these as the goal has it."""
    return not stray_sides(written, walls, goal)


def walls_written(hall, shut_texts):
    """The text, rising, of the walls that some calls write."""
    sides = "".join(shut_texts).lower()
    return "".join([wall for wall in hall.walls() if wall in sides])


def alike_beside(walls, room, goal):
    """Whether two rooms are alike in all walls but these."""
    return all([one == two or one.lower() in walls for one, two in zip(room, goal)])


def next_from_behind(shut_texts, behind, goal, taken, walls):
    """The least place that may be taken now, or None."""
    for place, written in enumerate(shut_texts):
        is_free = place not in taken and all([later in taken for later in behind[place]])
        if is_free and is_good(written, walls, goal):
            return place
    return None


def taken_from_behind(shut_texts, behind, goal):
    """The list of places that are taken from behind for a goal, as taken, and a text of the walls that they write.

    For each place, behind has the places that must come behind it, and so are taken ahead of it.
    """
    taken = []
    walls = ""
    place = next_from_behind(shut_texts, behind, goal, taken, walls)
    while place is not None:
        taken.append(place)
        walls += shut_texts[place].lower()
        place = next_from_behind(shut_texts, behind, goal, taken, walls)
    return (taken, walls)
