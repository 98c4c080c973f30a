"""Halls: walls, sides, bars, and the rooms that they leave."""

from nearcall.errors import Alike, BadBar, BadRoom, BadSide, BadWalls, Fixed

WIDEST = 12


def other(side):
    """The other side of the side's wall."""
    return side.swapcase()


def sides_of(walls):
    """All sides, a rising list: great letters come ahead of small ones."""
    return list(walls.upper() + walls)


def by_walls(walls, sides):
    """The text of those sides that are in a text or dict, in the walls' order."""
    return "".join([side for wall in walls for side in (other(wall), wall) if side in sides])


def is_walls(walls):
    small = all(["a" <= letter <= "z" for letter in walls])
    return small and 1 <= len(walls) <= WIDEST and sorted(set(walls)) == list(walls)


def is_bar(walls, bar):
    sides = sides_of(walls)
    if len(bar) != 2 or bar[0] not in sides or bar[1] not in sides:
        return False
    return bar[0].lower() < bar[1].lower()


def check_walls(walls):
    if not is_walls(walls):
        raise BadWalls()


def check_bars(walls, bars):
    for at, bar in enumerate(bars):
        if not is_bar(walls, bar) or bar in bars[:at]:
            raise BadBar(at)


def check_side(walls, side):
    if side not in sides_of(walls):
        raise BadSide()


def check_room(hall, room):
    if not hall.is_room(room):
        raise BadRoom()


def straight_from(walls, bars):
    """A dict from each side to the list of sides that it forces straight."""
    straight = {side: [] for side in sides_of(walls)}
    for bar in bars:
        straight[bar[0]].append(other(bar[1]))
        straight[bar[1]].append(other(bar[0]))
    return straight


def reached(straight, one):
    """A dict from each side that one forces to the side ahead of it on a shortest chain from one."""
    ahead = {one: None}
    wave = [one]
    while wave:
        later = []
        for side in wave:
            for met in straight[side]:
                if met not in ahead:
                    ahead[met] = side
                    later.append(met)
        wave = later
    return ahead


def all_forced(walls, bars):
    """A dict from each side to the text, by walls, of the sides that it forces."""
    straight = straight_from(walls, bars)
    return {side: by_walls(walls, reached(straight, side)) for side in straight}


def check_fixed(forced_by):
    for side in sorted(forced_by):
        if other(side) in forced_by[side]:
            raise Fixed(side)


def check_alike(forced_by):
    """Asked only where no side is fixed, so that another side is one of another wall."""
    for side in sorted(forced_by):
        for met in sorted(forced_by[side]):
            if met != side and side in forced_by[met]:
                raise Alike(side, met)


def chain(walls, bars, one, two):
    """A shortest list of sides from one to two, each forcing the next one straight, or None."""
    check_walls(walls)
    check_bars(walls, bars)
    check_side(walls, one)
    check_side(walls, two)
    ahead = reached(straight_from(walls, bars), one)
    if two not in ahead:
        return None
    found = []
    side = two
    while side is not None:
        found.append(side)
        side = ahead[side]
    return found[::-1]


def unlike(room, goal):
    """In how many walls two rooms differ."""
    return len([one for one, two in zip(room, goal) if one != two])


class Hall:
    """Walls and bars that are let by; it never changes."""

    def __init__(self, walls, bars=()):
        check_walls(walls)
        check_bars(walls, bars)
        forced_by = all_forced(walls, bars)
        check_fixed(forced_by)
        check_alike(forced_by)
        self.wall_text = walls
        self.bar_list = sorted(bars)
        self.forced_by = forced_by

    def walls(self):
        return self.wall_text

    def bars(self):
        return list(self.bar_list)

    def forced(self, side):
        """The text, by walls, of all sides that a side forces."""
        check_side(self.wall_text, side)
        return self.forced_by[side]

    def forces(self, one, two):
        check_side(self.wall_text, one)
        check_side(self.wall_text, two)
        return two in self.forced_by[one]

    def is_room(self, room):
        if room.lower() != self.wall_text:
            return False
        return not any([bar[0] in room and bar[1] in room for bar in self.bar_list])

    def rooms(self):
        """All rooms, a rising list."""
        begun = [""]
        for wall in self.wall_text:
            # The great side goes first, so that what has risen so far goes on rising.
            begun = [room + side for room in begun for side in (other(wall), wall) if self.goes_with(side, room)]
        return begun

    def goes_with(self, side, begun):
        """Whether a side forces none of the other sides of what is begun of a room."""
        forced = self.forced_by[side]
        return not any([other(had) in forced for had in begun])

    def doors(self, room):
        """The list of rooms behind the doors of a room, by walls."""
        check_room(self, room)
        turned = [room[:at] + other(side) + room[at + 1:] for at, side in enumerate(room)]
        return [behind for behind in turned if self.is_room(behind)]

    def steps(self, room, goal):
        """How many steps lead from a room to another one at the least."""
        check_room(self, room)
        check_room(self, goal)
        # As many as they differ in walls: a hall that is let by promises so much.
        return unlike(room, goal)

    def way(self, room, goal):
        """A list of rooms from a room to another one, by the fewest steps."""
        check_room(self, room)
        check_room(self, goal)
        passed = [room]
        while passed[-1] != goal:
            passed.append(self.nearer(passed[-1], goal))
        return passed

    def nearer(self, room, goal):
        """The first room behind a door that is a step nearer to the goal."""
        # There always is one: the fewest steps to the goal are the walls that differ.
        far = unlike(room, goal)
        return [behind for behind in self.doors(room) if unlike(behind, goal) < far][0]

    def __eq__(self, thing):
        return isinstance(thing, Hall) and self.wall_text == thing.wall_text and self.bar_list == thing.bar_list

    def __len__(self):
        return len(self.wall_text)

    def __str__(self):
        return " ".join([self.wall_text, *self.bar_list])

    def __repr__(self):
        return f"Hall({len(self.wall_text)} walls, {len(self.bar_list)} bars)"
