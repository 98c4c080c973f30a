"""Every refusal, with its word and its values."""


class HallError(ValueError):
    """Something handed in that is not let by."""

    def __init__(self, word):
        ValueError.__init__(self, word)
        self.word = word


class BadWalls(HallError):
    """A text that is no hall's walls."""

    def __init__(self):
        HallError.__init__(self, "badwalls")


class BadBar(HallError):
    """A bar, at this place, that is none or stands ahead already."""

    def __init__(self, at):
        HallError.__init__(self, "badbar")
        self.at = at


class BadSide(HallError):
    """A text that is no side of a wall of the hall."""

    def __init__(self):
        HallError.__init__(self, "badside")


class Fixed(HallError):
    """A side that forces its own other side, so that nobody could stand on it."""

    def __init__(self, side):
        HallError.__init__(self, "fixed")
        self.side = side


class Alike(HallError):
    """Two sides of two walls that force one another."""

    def __init__(self, one, other):
        HallError.__init__(self, "alike")
        self.one = one
        self.other = other


class BadRoom(HallError):
    """A text that is no room of the hall."""

    def __init__(self):
        HallError.__init__(self, "badroom")


class BadPart(HallError):
    """A text that tells no part of the hall."""

    def __init__(self):
        HallError.__init__(self, "badpart")


class Empty(HallError):
    """A part without rooms: both sides of this wall are forced."""

    def __init__(self, wall):
        HallError.__init__(self, "empty")
        self.wall = wall


class BadTurn(HallError):
    """A text that is no turn of the hall."""

    def __init__(self):
        HallError.__init__(self, "badturn")


class BadTable(HallError):
    """Entries that are no table of the hall: the entry at this place, or -1."""

    def __init__(self, at):
        HallError.__init__(self, "badtable")
        self.at = at


class OtherHall(HallError):
    """Two tables that are of two halls."""

    def __init__(self):
        HallError.__init__(self, "otherhall")


class BadText(HallError):
    """A text that is no written row: the sign at this place can't stand there."""

    def __init__(self, at):
        HallError.__init__(self, "badtext")
        self.at = at


class BadTree(HallError):
    """A tree that is no row."""

    def __init__(self):
        HallError.__init__(self, "badtree")


class Ring(HallError):
    """A row that is met within itself by this name."""

    def __init__(self, name):
        HallError.__init__(self, "ring")
        self.name = name


class TooMany(HallError):
    """More than the most that are let by."""

    def __init__(self, most):
        HallError.__init__(self, "toomany")
        self.most = most


class BadOrder(HallError):
    """A pair, at this place, that is none or closes a ring."""

    def __init__(self, at):
        HallError.__init__(self, "badorder")
        self.at = at


class BadCount(HallError):
    """A count below nought."""

    def __init__(self):
        HallError.__init__(self, "badcount")


class NoStory(HallError):
    """A sight to which no story leads."""

    def __init__(self):
        HallError.__init__(self, "nostory")


class BadName(HallError):
    """A text that is no name."""

    def __init__(self):
        HallError.__init__(self, "badname")


class Taken(HallError):
    """A name that a walker has already."""

    def __init__(self, name):
        HallError.__init__(self, "taken")
        self.name = name


class Full(HallError):
    """One walker or row more than the most that are let by."""

    def __init__(self, most):
        HallError.__init__(self, "full")
        self.most = most


class InWay(HallError):
    """A walker of this name who would stand on both sides of a bar."""

    def __init__(self, name):
        HallError.__init__(self, "inway")
        self.name = name


class Hangs(HallError):
    """A step of this number that is refused without the one to be struck."""

    def __init__(self, at):
        HallError.__init__(self, "hangs")
        self.at = at


class BadDeed(HallError):
    """A tuple that is no deed."""

    def __init__(self):
        HallError.__init__(self, "baddeed")


class BadPage(HallError):
    """A text that is no page: the row of this number can't stand there."""

    def __init__(self, at):
        HallError.__init__(self, "badpage")
        self.at = at


class Missing(LookupError):
    """Something asked for that isn't there."""

    def __init__(self, word):
        LookupError.__init__(self, word)
        self.word = word


class NoRow(Missing):
    """A row of this name isn't there."""

    def __init__(self, name):
        Missing.__init__(self, "norow")
        self.name = name


class NoWalker(Missing):
    """A walker of this name isn't there."""

    def __init__(self, name):
        Missing.__init__(self, "nowalker")
        self.name = name


class NoBar(Missing):
    """The bar isn't there."""

    def __init__(self):
        Missing.__init__(self, "nobar")


class NoWall(Missing):
    """The wall isn't there."""

    def __init__(self):
        Missing.__init__(self, "nowall")


class NoStep(Missing):
    """A step of this number isn't there."""

    def __init__(self, at):
        Missing.__init__(self, "nostep")
        self.at = at


class NothingLeft(IndexError):
    """Nothing is left to be taken back or done again."""

    def __init__(self):
        IndexError.__init__(self, "nothingleft")
        self.word = "nothingleft"
