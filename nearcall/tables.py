"""Tables: for each wall, on which side everybody stands behind, or by which side ahead one stands there."""

from nearcall.errors import BadCount, BadTable, OtherHall
from nearcall.halls import check_room, other, sides_of
from nearcall.parts import shut
from nearcall.turns import back_turn


def is_fixed(entry):
    return entry.startswith("=")


def stand_on(wall, small):
    """The entry by which everybody stands on a wall's small side, or on its great one."""
    return "=" + wall if small else "=" + other(wall)


def is_entry(walls, wall, entry):
    return entry in (stand_on(wall, True), stand_on(wall, False)) or entry in sides_of(walls)


def side_behind(wall, entry, room):
    """The side of a wall on which one stands behind an entry who comes from a room."""
    if is_fixed(entry):
        return entry[1]
    return wall if entry in room else other(wall)


def room_behind(walls, entries, room):
    return "".join([side_behind(wall, entry, room) for wall, entry in zip(walls, entries)])


def entry_ahead(wall, side, entry):
    """A wall's entry where those stand on its small side who stood on another wall's side behind an entry."""
    if is_fixed(entry):
        return stand_on(wall, entry[1] == side)
    return entry if side.islower() else other(entry)


def entries_then(walls, entries, later):
    """The entries of one table and then a later one."""
    ahead = {wall: entry for wall, entry in zip(walls, entries)}
    found = []
    for wall, entry in zip(walls, later):
        found.append(entry if is_fixed(entry) else entry_ahead(wall, entry, ahead[entry.lower()]))
    return tuple(found)


def entries_times(walls, entries, many):
    """The entries of a table done many times, by doubling, for many may be very great."""
    found = tuple(walls)
    doubled = entries
    while many > 0:
        if many & 1 == 1:
            found = entries_then(walls, found, doubled)
        doubled = entries_then(walls, doubled, doubled)
        many //= 2
    return found


def may_meet(hall, one, two):
    """Whether somebody stands on both sides, each a side or, for everybody or nobody, True or False."""
    if one is False or two is False:
        return False
    if one is True or two is True:
        # Each side of a hall that is let by is in some room.
        return True
    return not hall.forces(one, other(two))


def stood_ahead(side, entry):
    """On which side those stood ahead who stand on a side behind an entry: True for all, False for none."""
    if is_fixed(entry):
        return entry[1] == side
    return entry if side.islower() else other(entry)


def leads_to_rooms(hall, entries):
    """Whether entries lead nobody to both sides of a bar."""
    entry_of = {wall: entry for wall, entry in zip(hall.walls(), entries)}
    for bar in hall.bars():
        one = stood_ahead(bar[0], entry_of[bar[0].lower()])
        two = stood_ahead(bar[1], entry_of[bar[1].lower()])
        if may_meet(hall, one, two):
            return False
    return True


def check_entries(hall, entries):
    walls = hall.walls()
    if len(entries) != len(walls):
        raise BadTable(-1)
    for at, entry in enumerate(entries):
        if not is_entry(walls, walls[at], entry):
            raise BadTable(at)
    if not leads_to_rooms(hall, entries):
        raise BadTable(-1)


def check_same_hall(one, two):
    if one.hall() != two.hall():
        raise OtherHall()


class Table:
    """Where everybody stands behind some row of calls and turns; it never changes."""

    def __init__(self, hall, entries):
        check_entries(hall, entries)
        self.place = hall
        self.entry_texts = tuple(entries)

    def hall(self):
        return self.place

    def entries(self):
        return self.entry_texts

    def led(self, room):
        """The room behind for those who come from a room."""
        check_room(self.place, room)
        return room_behind(self.place.walls(), self.entry_texts, room)

    def then(self, later):
        """The table of this one and then a later one."""
        check_same_hall(self, later)
        return Table(self.place, entries_then(self.place.walls(), self.entry_texts, later.entries()))

    def times(self, many):
        """The table of this one, done so often."""
        if many < 0:
            raise BadCount()
        return Table(self.place, entries_times(self.place.walls(), self.entry_texts, many))

    def fixed(self):
        """The text of the sides on which everybody stands behind, by walls."""
        return "".join([entry[1] for entry in self.entry_texts if is_fixed(entry)])

    def __eq__(self, thing):
        return isinstance(thing, Table) and self.place == thing.place and self.entry_texts == thing.entry_texts

    def __len__(self):
        return len(self.fixed())

    def __str__(self):
        return " ".join(self.entry_texts)

    def __repr__(self):
        return f"Table({len(self.entry_texts)} walls, {len(self.fixed())} fixed)"


def still(hall):
    """The table of no step."""
    return Table(hall, tuple(hall.walls()))


def of_call(hall, part):
    """The table of a call: it writes the walls of the part's shut text, and leaves the others."""
    written = shut(hall, part)
    return Table(hall, [stand_on(wall, wall in written) if wall in written.lower() else wall for wall in hall.walls()])


def of_turn(hall, turn):
    """The table of a turn: one stands behind on a side who stood on what goes over into it."""
    return Table(hall, tuple(back_turn(hall, turn)))


def parting(one, two):
    """The first room from which two tables lead to unlike rooms, or None."""
    check_same_hall(one, two)
    if one == two:
        return None
    for room in one.hall().rooms():
        if one.led(room) != two.led(room):
            return room
    return None
