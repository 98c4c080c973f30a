"""Pages: how a crowd stands, as a text, and read from one."""

from nearcall.crowd import crowd_of
from nearcall.errors import BadPage, HallError
from nearcall.halls import Hall
from nearcall.rows import read_row, row_text
from nearcall.state import State, behind_deed


def page(crowd):
    lines = ["hall " + str(crowd.hall())]
    lines += ["row " + name + " " + row_text(crowd.row(name)) for name in crowd.rows()]
    lines += ["walker " + name + " " + crowd.where(name) for name in crowd.names()]
    return "".join([line + "\n" for line in lines])


def first_state(line):
    """The state of a page of one line, None where it is none."""
    word, blank, told = line.partition(" ")
    if word != "hall":
        return None
    walls, *bars = told.split(" ")
    hall = Hall(walls, bars)
    return State(hall, {}, {}) if str(hall) == told else None


def is_behind(name, known):
    """Whether a name rises behind all names of a dict."""
    return all([had < name for had in known])


def later_state(state, line):
    """The state of a page with a line more, None where it is none."""
    word, blank, rest = line.partition(" ")
    name, blank, told = rest.partition(" ")
    if word == "row" and not state.walkers and is_behind(name, state.row_trees):
        return behind_deed(state, ("tell", name, read_row(told)), 0)
    if word == "walker" and is_behind(name, state.walkers):
        return behind_deed(state, ("come", name, told), 0)
    return None


def state_with(state, line, at):
    """The state of a page with the line of this number more."""
    try:
        found = first_state(line) if at == 0 else later_state(state, line)
    except HallError:
        raise BadPage(at) from None
    if found is None:
        raise BadPage(at)
    return found


def read_page(text):
    """The crowd that stands as a page tells."""
    lines = text.split("\n")
    # What stands behind the last line feed: nothing, unless the last row has none.
    rest = lines.pop()
    state = None
    for at, line in enumerate(lines):
        state = state_with(state, line, at)
    if state is None or rest != "":
        raise BadPage(len(lines))
    return crowd_of(state)
