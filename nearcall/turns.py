"""Turns of a hall: sides that go over into sides, and force one another as before."""

from nearcall.errors import BadTurn
from nearcall.halls import by_walls, check_room, other
from nearcall.parts import check_part


def goes_over(walls, turn):
    """A dict from each side to the one that it goes over into."""
    into = {}
    for wall, side in zip(walls, turn):
        into[wall] = side
        into[other(wall)] = other(side)
    return into


def sides_over(into, sides):
    """The text of what sides go over into, in the order of these sides."""
    return "".join([into[side] for side in sides])


def keeps_forcing(hall, into):
    """Whether what a side forces goes over into what the side that it goes over into forces."""
    for side in into:
        # No two sides go over into one, so the two texts are the same just where
        # each side forces another one before as it does behind.
        met = by_walls(hall.walls(), sides_over(into, hall.forced(side)))
        if met != hall.forced(into[side]):
            return False
    return True


def is_turn(hall, turn):
    walls = hall.walls()
    if len(turn) != len(walls) or sorted(turn.lower()) != list(walls):
        return False
    return keeps_forcing(hall, goes_over(walls, turn))


def checked_turn(hall, turn):
    """A dict from each side to the one that it goes over into by a text, if that is a turn."""
    if not is_turn(hall, turn):
        raise BadTurn()
    return goes_over(hall.walls(), turn)


def still_turn(hall):
    """The turn that turns nothing."""
    return hall.walls()


def turned(hall, turn, room):
    """The room to which all in a room go by a turn."""
    into = checked_turn(hall, turn)
    check_room(hall, room)
    return by_walls(hall.walls(), sides_over(into, room))


def over(hall, turn, part):
    """The text, by walls, of what a part's sides go over into."""
    into = checked_turn(hall, turn)
    check_part(hall, part)
    return by_walls(hall.walls(), sides_over(into, part))


def turn_behind(hall, one, two):
    """The turn that does one, then two."""
    checked_turn(hall, one)
    return sides_over(checked_turn(hall, two), one)


def back_turn(hall, turn):
    """The turn that takes a turn back."""
    into = checked_turn(hall, turn)
    back = {into[side]: side for side in into}
    return sides_over(back, hall.walls())


def round_of(hall, turn):
    """How often, once at the least, a turn is done until everything is as at first."""
    into = checked_turn(hall, turn)
    many = 1
    behind = turn
    while behind != hall.walls():
        behind = sides_over(into, behind)
        many += 1
    return many
