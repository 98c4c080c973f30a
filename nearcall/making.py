"""What a row does in all: its table, where it leads, how many calls and turns it does, and which."""

from nearcall.errors import NoRow, Ring, TooMany
from nearcall.halls import check_room
from nearcall.rows import check_row
from nearcall.tables import Table, entries_then, entries_times, of_call, of_turn

MOST_DONE = 10 ** 60
MOST_LISTED = 400


class EntryMaker:
    """Makes of rows the entries of their tables."""

    def __init__(self, hall):
        self.place = hall

    def nothing(self):
        return tuple(self.place.walls())

    def of_step(self, step):
        if step[0] == "call":
            return of_call(self.place, step[1]).entries()
        return of_turn(self.place, step[1]).entries()

    def joined(self, ahead, behind):
        return entries_then(self.place.walls(), ahead, behind)

    def repeated(self, once, many):
        return entries_times(self.place.walls(), once, many)


class CountMaker:
    """Makes of rows how many calls and turns they do."""

    def nothing(self):
        return 0

    def of_step(self, step):
        return 1

    def joined(self, ahead, behind):
        if ahead + behind > MOST_DONE:
            raise TooMany(MOST_DONE)
        return ahead + behind

    def repeated(self, once, many):
        return once * many


class ListMaker:
    """Makes of rows the lists of their calls and turns, cut behind the most that are asked for.

    Only a row that does no more than that is listed. What is cut in it stands in groups of no times.
    """

    def __init__(self, most):
        self.most = most

    def nothing(self):
        return []

    def of_step(self, step):
        return [step]

    def joined(self, ahead, behind):
        return (ahead + behind)[:self.most]

    def repeated(self, once, many):
        if not once:
            return []
        # A list can't be repeated as often as a group can.
        return once * min(many, self.most // len(once))


class Stretch:
    """A row that is begun: the steps to be done, the last one first, and the worth of those that are done.

    It has a name where it is a named row, and many times where it is a group.
    """

    def __init__(self, row, name, many, worth):
        self.todo = list(row[1][::-1])
        self.name = name
        self.many = many
        self.worth = worth


class Reckoning:
    """A row on the way through it, with all rows that are begun within it, the innermost last.

    They stand in a list, for rows may name one another farther than calls of functions should go.
    """

    def __init__(self, maker, book):
        self.maker = maker
        self.book = book
        # What is made of each name, None as long as its row is begun.
        self.named = {}
        self.begun_rows = []

    def begin(self, row, name, many):
        self.begun_rows.append(Stretch(row, name, many, self.maker.nothing()))

    def add_worth(self, worth):
        last = self.begun_rows[-1]
        last.worth = self.maker.joined(last.worth, worth)

    def do_name(self, name):
        if name not in self.book:
            raise NoRow(name)
        if name not in self.named:
            self.named[name] = None
            self.begin(self.book[name], name, 1)
        elif self.named[name] is None:
            raise Ring(name)
        else:
            self.add_worth(self.named[name])

    def do_step(self, step):
        if step[0] == "times":
            self.begin(step[2], None, step[1])
        elif step[0] == "row":
            self.do_name(step[1])
        else:
            self.add_worth(self.maker.of_step(step))

    def finish(self):
        """Ends the innermost row, and adds its worth to the one around it."""
        ended = self.begun_rows.pop()
        worth = self.maker.repeated(ended.worth, ended.many)
        if ended.name is not None:
            self.named[ended.name] = worth
        self.add_worth(worth)

    def worth_of(self, row):
        """What is made of a row."""
        self.begin(row, None, 1)
        while len(self.begun_rows) > 1 or self.begun_rows[0].todo:
            last = self.begun_rows[-1]
            if last.todo:
                self.do_step(last.todo.pop())
            else:
                self.finish()
        return self.begun_rows[0].worth


def made_of(maker, tree, book):
    """What a maker makes of a tree that is a row."""
    return Reckoning(maker, {} if book is None else book).worth_of(tree)


def table_of(hall, tree, *, book=None):
    check_row(tree)
    return Table(hall, made_of(EntryMaker(hall), tree, book))


def walked(hall, tree, room, *, book=None):
    """The room behind a row for those who come from a room."""
    check_row(tree)
    check_room(hall, room)
    return table_of(hall, tree, book=book).led(room)


def many_done(tree, *, book=None):
    """How many calls and turns a row does in all."""
    check_row(tree)
    return made_of(CountMaker(), tree, book)


def spelled(tree, *, book=None, most=MOST_LISTED):
    """The list of the calls and turns that a row does, one by one."""
    if many_done(tree, book=book) > most:
        raise TooMany(most)
    return made_of(ListMaker(most), tree, book)
