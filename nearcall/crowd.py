"""A crowd, kept through many deeds, which can be taken back, done again and struck."""

from nearcall.errors import Hangs, HallError, Missing, NoStep, NothingLeft
from nearcall.halls import check_room
from nearcall.making import table_of
from nearcall.rows import is_number
from nearcall.state import State, behind_step, check_row_name, check_walker, rooms_by_name, same_rules


class Crowd:
    """Walkers and rows in a hall, the steps that stand, and those that can be done again."""

    def __init__(self, hall):
        self.now = State(hall, {}, {})
        # Pairs: the deeds of a step, and the state ahead of it.
        self.standing = []
        # Pairs: the deeds of a step that was taken back, and the state behind it; the next one to be done is last.
        self.undone = []
        self.tables = {}
        self.tables_made = 0
        self.in_deed = False

    def tried(self, state, deeds, at):
        """The state behind a step of this number."""
        self.in_deed = True
        try:
            return behind_step(state, deeds, at)
        finally:
            self.in_deed = False

    def turn_to(self, state):
        """Stands as a state from now on."""
        if not same_rules(self.now, state):
            self.tables = {}
        self.now = state

    def all_of(self, deeds):
        """Does deeds as one step."""
        kept = tuple(deeds)
        behind = self.tried(self.now, kept, len(self.standing))
        self.standing.append((kept, self.now))
        self.undone = []
        self.turn_to(behind)

    def do(self, deed):
        self.all_of((deed,))

    def come(self, name, room):
        self.do(("come", name, room))

    def go(self, name):
        self.do(("go", name))

    def tell(self, name, tree):
        self.do(("tell", name, tree))

    def untell(self, name):
        self.do(("untell", name))

    def lead(self, tree, *, names=()):
        self.do(("lead", tree, tuple(names)))

    def bar(self, bar):
        self.do(("bar", bar))

    def unbar(self, bar):
        self.do(("unbar", bar))

    def put(self, wall, *, bars=()):
        self.do(("put", wall, tuple(bars)))

    def merge(self, wall):
        self.do(("merge", wall))

    def undo(self):
        """Takes the last step back, and tells its deeds."""
        if not self.standing:
            raise NothingLeft()
        deeds, ahead = self.standing.pop()
        self.undone.append((deeds, self.now))
        self.turn_to(ahead)
        return list(deeds)

    def redo(self):
        """Does the step again that was taken back last, and tells its deeds."""
        if not self.undone:
            raise NothingLeft()
        deeds, behind = self.undone.pop()
        self.standing.append((deeds, self.now))
        self.turn_to(behind)
        return list(deeds)

    def redone(self, at, state):
        """The state behind the step of this number, done anew behind another state with one number less."""
        try:
            return self.tried(state, self.standing[at][0], at - 1)
        except (HallError, Missing):
            raise Hangs(at) from None

    def strike(self, at):
        """Makes a step as if it had never been."""
        if not is_number(at, len(self.standing) - 1):
            raise NoStep(at)
        kept = self.standing[:at]
        state = self.standing[at][1]
        for later in range(at + 1, len(self.standing)):
            kept.append((self.standing[later][0], state))
            state = self.redone(later, state)
        self.standing = kept
        self.undone = []
        self.turn_to(state)

    def hall(self):
        return self.now.place

    def names(self):
        return sorted(self.now.walkers)

    def where(self, name):
        """The room in which a walker stands."""
        check_walker(self.now, name)
        return self.now.walkers[name][0]

    def blame(self, name):
        """The tuple of the steps to blame for a walker's sides, by walls."""
        check_walker(self.now, name)
        return self.now.walkers[name][1]

    def who(self, room):
        """The rising list of the names of those in a room."""
        check_room(self.now.place, room)
        return [name for name in self.names() if self.where(name) == room]

    def rows(self):
        return sorted(self.now.row_trees)

    def row(self, name):
        check_row_name(self.now, name)
        return self.now.row_trees[name]

    def table(self, name):
        """The table of a row, made if it isn't kept."""
        check_row_name(self.now, name)
        if name not in self.tables:
            tree = ("steps", (("row", name),))
            self.tables[name] = table_of(self.now.place, tree, book=self.now.row_trees)
            self.tables_made += 1
        return self.tables[name]

    def kept(self):
        """The rising list of the names of rows whose tables are kept."""
        return sorted(self.tables)

    def made(self):
        """How many tables were made so far."""
        return self.tables_made

    def steps_done(self):
        return [list(deeds) for deeds, ahead in self.standing]

    def left(self):
        """How many steps can be taken back, and how many done again."""
        return (len(self.standing), len(self.undone))

    def busy(self):
        return self.in_deed

    def twin(self):
        """Another crowd with all that this one has."""
        twin = crowd_of(self.now)
        twin.standing = list(self.standing)
        twin.undone = list(self.undone)
        twin.tables = dict(self.tables)
        twin.tables_made = self.tables_made
        return twin

    def __eq__(self, thing):
        if not isinstance(thing, Crowd):
            return False
        return same_rules(self.now, thing.now) and rooms_by_name(self.now) == rooms_by_name(thing.now)

    def __len__(self):
        return len(self.now.walkers)

    def __repr__(self):
        return f"Crowd({len(self.now.walkers)} walkers, {len(self.now.row_trees)} rows)"


def crowd_of(state):
    """A crowd that stands as a state, with nothing to take back."""
    crowd = Crowd(state.place)
    crowd.now = state
    return crowd
