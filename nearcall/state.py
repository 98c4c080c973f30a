"""How a crowd stands, and what each deed makes of it."""

from nearcall.errors import (
    BadBar, BadDeed, BadName, BadWalls, Full, InWay, NoBar, NoRow, NoWalker, NoWall, Taken,
)
from nearcall.halls import WIDEST, Hall, by_walls, check_room, is_bar, other, sides_of
from nearcall.making import table_of
from nearcall.rows import SMALL, check_row, is_name, is_word
from nearcall.tables import is_fixed, room_behind

MOST_WALKERS = 8
MOST_ROWS = 8


class State:
    """A hall, walkers and rows; it never changes, so that it may be kept and shared.

    The walkers are a dict from names to pairs: the room, and the tuple of steps to blame, by walls.
    """

    def __init__(self, hall, walkers, row_trees):
        self.place = hall
        self.walkers = walkers
        self.row_trees = row_trees


def same_rules(one, two):
    """Whether two states have the same hall and rows, so that their tables are the same."""
    return one.place == two.place and one.row_trees == two.row_trees


def rooms_by_name(state):
    return {name: state.walkers[name][0] for name in state.walkers}


def without(known, name):
    """A copy of a dict without a name."""
    return {had: known[had] for had in known if had != name}


def check_name(name):
    if not is_name(name):
        raise BadName()


def check_walker(state, name):
    if name not in state.walkers:
        raise NoWalker(name)


def check_row_name(state, name):
    if name not in state.row_trees:
        raise NoRow(name)


def come(state, deed, at):
    name, room = deed[1], deed[2]
    check_name(name)
    if name in state.walkers:
        raise Taken(name)
    if len(state.walkers) == MOST_WALKERS:
        raise Full(MOST_WALKERS)
    check_room(state.place, room)
    blames = tuple([-1 for wall in state.place.walls()])
    return State(state.place, {**state.walkers, name: (room, blames)}, state.row_trees)


def go(state, deed, at):
    check_walker(state, deed[1])
    return State(state.place, without(state.walkers, deed[1]), state.row_trees)


def tell(state, deed, at):
    name, tree = deed[1], deed[2]
    check_name(name)
    if name not in state.row_trees and len(state.row_trees) == MOST_ROWS:
        raise Full(MOST_ROWS)
    check_row(tree)
    return State(state.place, state.walkers, {**state.row_trees, name: tree})


def untell(state, deed, at):
    check_row_name(state, deed[1])
    return State(state.place, state.walkers, without(state.row_trees, deed[1]))


def blames_led(walls, entries, blames, at):
    """The steps to blame behind a table's entries, on the step of this number where they fix a side."""
    blame_of = {wall: blame for wall, blame in zip(walls, blames)}
    return tuple([at if is_fixed(entry) else blame_of[entry.lower()] for entry in entries])


def lead(state, deed, at):
    tree, names = deed[1], deed[2]
    for name in names:
        check_walker(state, name)
    entries = table_of(state.place, tree, book=state.row_trees).entries()
    walls = state.place.walls()
    walkers = {}
    for name in state.walkers:
        room, blames = state.walkers[name]
        if not names or name in names:
            room = room_behind(walls, entries, room)
            blames = blames_led(walls, entries, blames, at)
        walkers[name] = (room, blames)
    return State(state.place, walkers, state.row_trees)


def blames_moved(walls, blames, later_walls):
    """The steps to blame for the walls of another hall, none for a wall that is new."""
    blame_of = {wall: blame for wall, blame in zip(walls, blames)}
    return tuple([blame_of.get(wall, -1) for wall in later_walls])


def moved(state, hall, added):
    """The walkers and rows in another hall, all on the small side of the walls that are added."""
    walls = hall.walls()
    walkers = {}
    for name in sorted(state.walkers):
        room, blames = state.walkers[name]
        behind = by_walls(walls, room + added)
        if not hall.is_room(behind):
            raise InWay(name)
        walkers[name] = (behind, blames_moved(state.place.walls(), blames, walls))
    return State(hall, walkers, state.row_trees)


def add_bar(state, deed, at):
    bar = deed[1]
    walls, bars = state.place.walls(), state.place.bars()
    if not is_bar(walls, bar) or bar in bars:
        raise BadBar(0)
    return moved(state, Hall(walls, bars + [bar]), "")


def drop_bar(state, deed, at):
    bars = state.place.bars()
    if deed[1] not in bars:
        raise NoBar()
    return moved(state, Hall(state.place.walls(), [bar for bar in bars if bar != deed[1]]), "")


def check_new_wall(walls, wall):
    if not is_word(wall, SMALL, 1, 1) or wall in walls or len(walls) == WIDEST:
        raise BadWalls()


def check_own_bars(walls, wall, bars):
    """Refuses the first that is no bar of one of the wall's sides, or stands ahead already."""
    for at, bar in enumerate(bars):
        if not is_bar(walls, bar) or wall not in bar.lower() or bar in bars[:at]:
            raise BadBar(at)


def put_wall(state, deed, at):
    wall, bars = deed[1], deed[2]
    check_new_wall(state.place.walls(), wall)
    walls = "".join(sorted(state.place.walls() + wall))
    check_own_bars(walls, wall, bars)
    return moved(state, Hall(walls, state.place.bars() + list(bars)), wall)


def never_both(hall, walls):
    """The list of the bars of these walls of which no room has both sides."""
    sides = sides_of(walls)
    pairs = [(one, two) for one in sides for two in sides if one.lower() < two.lower()]
    # In a hall that is let by, that is just where the one side forces the other one's other side.
    return [one + two for one, two in pairs if hall.forces(one, other(two))]


def merge_wall(state, deed, at):
    wall = deed[1]
    if wall not in list(state.place.walls()):
        raise NoWall()
    if len(state.place) == 1:
        raise BadWalls()
    walls = state.place.walls().replace(wall, "")
    return moved(state, Hall(walls, never_both(state.place, walls)), "")


LENGTHS = {
    "come": 3, "go": 2, "tell": 3, "untell": 2, "lead": 3, "bar": 2, "unbar": 2, "put": 3, "merge": 2,
}
ACTS = {
    "come": come, "go": go, "tell": tell, "untell": untell, "lead": lead, "bar": add_bar, "unbar": drop_bar,
    "put": put_wall, "merge": merge_wall,
}


def check_deed(deed):
    if not isinstance(deed, tuple) or not deed or not isinstance(deed[0], str):
        raise BadDeed()
    if deed[0] not in LENGTHS or len(deed) != LENGTHS[deed[0]]:
        raise BadDeed()


def behind_deed(state, deed, at):
    """The state behind a deed that is done in the step of this number."""
    check_deed(deed)
    act = ACTS[deed[0]]
    return act(state, deed, at)


def behind_step(state, deeds, at):
    """The state behind all deeds of the step of this number."""
    for deed in deeds:
        state = behind_deed(state, deed, at)
    return state
