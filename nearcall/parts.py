"""Parts of a hall: their shut text, their rooms, and the nearest of these."""

from nearcall.errors import BadPart, Empty
from nearcall.halls import by_walls, check_room, other


def is_part(hall, part):
    walls = hall.walls()
    ahead = ""
    for wall in part.lower():
        if wall not in walls or wall <= ahead:
            return False
        ahead = wall
    return True


def check_part(hall, part):
    if not is_part(hall, part):
        raise BadPart()


def all_forced_by(hall, part):
    """A text of the sides that a part's sides force, perhaps some of them more than once."""
    return "".join([hall.forced(side) for side in part])


def torn_walls(hall, part):
    """The text of the walls of which a part's sides force both sides."""
    sides = all_forced_by(hall, part)
    return "".join([wall for wall in hall.walls() if wall in sides and other(wall) in sides])


def holds(part, room):
    return all([side in room for side in part])


def is_empty(hall, part):
    check_part(hall, part)
    return torn_walls(hall, part) != ""


def shut(hall, part):
    """The text of all sides that a part's sides force, by walls."""
    check_part(hall, part)
    torn = torn_walls(hall, part)
    if torn != "":
        raise Empty(torn[0])
    return by_walls(hall.walls(), all_forced_by(hall, part))


def written_over(written, room):
    """A room with the sides of a shut text written over it: where a call to the part leads from there."""
    return "".join([other(side) if other(side) in written else side for side in room])


def near(hall, part, room):
    """The nearest room of a part."""
    written = shut(hall, part)
    check_room(hall, room)
    return written_over(written, room)


def has(hall, part, room):
    """Whether a room is one of a part's rooms."""
    check_part(hall, part)
    check_room(hall, room)
    return holds(part, room)


def rooms_of(hall, part):
    """All rooms of a part, a rising list."""
    written = shut(hall, part)
    return [room for room in hall.rooms() if holds(written, room)]


def first_room(hall, part):
    """The first room of a part, rising."""
    sides = shut(hall, part)
    for great in hall.walls().upper():
        # A great side goes ahead of the small one. Where the sides so far, which force
        # nothing more, don't force the small one, they don't bar what the great one forces.
        if other(great) not in sides:
            sides += hall.forced(great)
    return by_walls(hall.walls(), sides)
