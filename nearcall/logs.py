"""A log of calls sent to one walker, and of the rooms in which the walker is seen."""

from nearcall.errors import NoStory, NothingLeft, TooMany
from nearcall.halls import check_room
from nearcall.lost import ends_within, fewest_lost, stories, told_of
from nearcall.parts import shut

MOST_BETWEEN = 12


def mark_text(mark):
    return ("." if mark[0] == "call" else "@") + mark[1]


class Log:
    """A beginning, and marks behind it."""

    def __init__(self, hall, room):
        check_room(hall, room)
        self.place = hall
        self.beginning = room
        self.marks = []

    def stretches(self):
        """A list of a tuple for each stretch: the sight ahead, its calls, the sight behind (None for the last one)."""
        found = []
        ahead = self.beginning
        calls = []
        for kind, told in self.marks:
            if kind == "call":
                calls.append(told)
            else:
                found.append((ahead, calls, told))
                ahead = told
                calls = []
        found.append((ahead, calls, None))
        return found

    def call(self, part):
        """A call is sent."""
        shut(self.place, part)
        if len(self.stretches()[-1][1]) == MOST_BETWEEN:
            raise TooMany(MOST_BETWEEN)
        self.marks.append(("call", part))

    def seen(self, room):
        """The walker is seen in a room."""
        ahead, calls, behind = self.stretches()[-1]
        # It refuses what is no room, too.
        if fewest_lost(self.place, calls, ahead, room) is None:
            raise NoStory()
        self.marks.append(("seen", room))

    def back(self):
        """Takes the last mark back, and tells it."""
        if not self.marks:
            raise NothingLeft()
        return self.marks.pop()

    def fewest(self):
        """How many calls were lost at the least up to the last sight."""
        lost = [fewest_lost(self.place, calls, ahead, behind) for ahead, calls, behind in self.stretches()[:-1]]
        return sum([len(places) for places in lost])

    def words(self):
        """A list of heard, lost, either or open for each call."""
        found = []
        for ahead, calls, behind in self.stretches():
            if behind is None:
                found += ["open"] * len(calls)
            else:
                found += told_of(self.place, calls, ahead, behind)
        return found

    def choices(self):
        """How many stories there are up to the last sight, all stretches together."""
        many = 1
        for ahead, calls, behind in self.stretches()[:-1]:
            many *= stories(self.place, calls, ahead, behind)
        return many

    def maybe(self):
        """The rising list of rooms in which the walker may be now."""
        ahead, calls, behind = self.stretches()[-1]
        return ends_within(self.place, calls, ahead, most=len(calls))

    def twin(self):
        """Another log that is the same up to now."""
        made = Log(self.place, self.beginning)
        made.marks = list(self.marks)
        return made

    def __eq__(self, thing):
        if not isinstance(thing, Log):
            return False
        return self.place == thing.place and self.beginning == thing.beginning and self.marks == thing.marks

    def __len__(self):
        return len(self.marks)

    def __str__(self):
        return " ".join([self.beginning] + [mark_text(mark) for mark in self.marks])
