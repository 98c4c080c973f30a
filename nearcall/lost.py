"""Calls that are sent one by one, of which some may be lost."""

from nearcall.calls import alike_beside, is_good, shut_calls
from nearcall.errors import BadCount, TooMany
from nearcall.halls import check_room
from nearcall.parts import written_over

MOST_SENT = 24


def least_story(shut_texts, room, goal, missed):
    """The rising list of places lost in every story that loses the missed place (None: any story), or None."""
    lost = []
    walls = ""
    for place in range(len(shut_texts) - 1, -1, -1):
        # The more is heard behind it, the sooner a call is good: each that may be heard is.
        if place != missed and is_good(shut_texts[place], walls, goal):
            walls += shut_texts[place].lower()
        else:
            lost.append(place)
    return lost[::-1] if alike_beside(walls, room, goal) else None


def fewest_lost(hall, calls, room, goal):
    """The rising list of the places of the least story, or None."""
    shut_texts = shut_calls(hall, calls, MOST_SENT)
    check_room(hall, room)
    check_room(hall, goal)
    return least_story(shut_texts, room, goal, None)


def told_of(hall, calls, room, goal):
    """A list of heard, lost or either for each call, or None without a story."""
    shut_texts = shut_calls(hall, calls, MOST_SENT)
    check_room(hall, room)
    check_room(hall, goal)
    lost = least_story(shut_texts, room, goal, None)
    if lost is None:
        return None
    return [told_of_one(shut_texts, room, goal, lost, place) for place in range(len(shut_texts))]


def told_of_one(shut_texts, room, goal, lost, place):
    if place in lost:
        return "lost"
    return "heard" if least_story(shut_texts, room, goal, place) is None else "either"


def stories(hall, calls, room, goal):
    """How many stories lead from a room to the goal."""
    shut_texts = shut_calls(hall, calls, MOST_SENT)
    check_room(hall, room)
    check_room(hall, goal)
    many = {room: 1}
    for written in shut_texts:
        # Lost, the call leaves all where they are.
        later = dict(many)
        for stood in many:
            met = written_over(written, stood)
            later[met] = later.get(met, 0) + many[stood]
        many = later
    return many.get(goal, 0)


def least_missed(shut_texts, room):
    """A dict from each room in which one may end to how many calls one misses at the least."""
    missed = {room: 0}
    for written in shut_texts:
        later = {stood: missed[stood] + 1 for stood in missed}
        for stood in missed:
            met = written_over(written, stood)
            later[met] = min(missed[stood], later.get(met, missed[stood]))
        missed = later
    return missed


def rooms_within(shut_texts, room, most):
    if most < 0:
        raise BadCount()
    missed = least_missed(shut_texts, room)
    return sorted([stood for stood in missed if missed[stood] <= most])


def ends_within(hall, calls, room, *, most):
    """The rising list of rooms in which one may end who misses at most so many calls."""
    shut_texts = shut_calls(hall, calls, MOST_SENT)
    check_room(hall, room)
    return rooms_within(shut_texts, room, most)


def surely_there(hall, calls, room, goal, *, most):
    """Whether one ends in the goal whichever calls are missed, at most so many."""
    shut_texts = shut_calls(hall, calls, MOST_SENT)
    check_room(hall, room)
    check_room(hall, goal)
    return rooms_within(shut_texts, room, most) == [goal]


def hardened(calls, many):
    """Each part so many times and once more, one behind the other."""
    if many < 0:
        raise BadCount()
    if len(calls) * (many + 1) > MOST_SENT:
        raise TooMany(MOST_SENT)
    found = []
    for part in calls:
        found += [part] * (many + 1)
    return found
