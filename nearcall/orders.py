"""Calls that are each made once, in any order that keeps some pairs."""

from nearcall.calls import alike_beside, shut_calls, taken_from_behind
from nearcall.errors import BadOrder
from nearcall.halls import check_room
from nearcall.parts import written_over
from nearcall.rows import is_number

MOST_ORDERED = 8


def is_pair(pair, count):
    """Whether a thing is a pair of two unlike places among so many."""
    if len(pair) != 2 or pair[0] == pair[1]:
        return False
    return is_number(pair[0], count - 1) and is_number(pair[1], count - 1)


def with_pair(behind, one, two):
    """For each place the list of those that must come behind it, where two must come behind one, too."""
    later = [two] + behind[two]
    found = []
    for place, had in enumerate(behind):
        is_ahead = place == one or one in had
        found.append(had + [met for met in later if is_ahead and met not in had])
    return found


def must_follow(count, pairs):
    """For each of so many places the list of those that must come behind it, however far."""
    behind = [[] for place in range(count)]
    for at, pair in enumerate(pairs):
        if not is_pair(pair, count) or pair[0] in behind[pair[1]]:
            raise BadOrder(at)
        behind = with_pair(behind, pair[0], pair[1])
    return behind


def last_places(shut_texts, behind, wall):
    """The rising tuple of places that write a wall last in some order."""
    writers = [place for place, written in enumerate(shut_texts) if wall in written.lower()]
    # All but those that must come behind it may come ahead of a call.
    return tuple([place for place in writers if not any([later in behind[place] for later in writers])])


def last_words(hall, calls, pairs):
    """A list of the places, for each wall, that write it last in some order."""
    shut_texts = shut_calls(hall, calls, MOST_ORDERED)
    behind = must_follow(len(shut_texts), pairs)
    return [last_places(shut_texts, behind, wall) for wall in hall.walls()]


def sides_at_last(shut_texts, behind, side):
    """The rising list of the sides on which one ends, by some order, who stands on a side of a wall."""
    wall = side.lower()
    places = last_places(shut_texts, behind, wall)
    if not places:
        return [side]
    return sorted({met for place in places for met in shut_texts[place] if met.lower() == wall})


def surely(hall, calls, pairs, room):
    """The room in which every order ends, or None."""
    shut_texts = shut_calls(hall, calls, MOST_ORDERED)
    behind = must_follow(len(shut_texts), pairs)
    check_room(hall, room)
    sides = [sides_at_last(shut_texts, behind, side) for side in room]
    if any([len(choice) > 1 for choice in sides]):
        return None
    return "".join([choice[0] for choice in sides])


def may_end(hall, calls, pairs, room, goal):
    """An order, a list of all places, that leads from a room to the goal, or None."""
    shut_texts = shut_calls(hall, calls, MOST_ORDERED)
    behind = must_follow(len(shut_texts), pairs)
    check_room(hall, room)
    check_room(hall, goal)
    taken, walls = taken_from_behind(shut_texts, behind, goal)
    # The last call left of an order that leads to the goal is always good beside those taken.
    if len(taken) < len(shut_texts) or not alike_beside(walls, room, goal):
        return None
    return taken[::-1]


def held_up(hall, calls, pairs, goal):
    """The rising list of places that are left where the others are taken from behind."""
    shut_texts = shut_calls(hall, calls, MOST_ORDERED)
    behind = must_follow(len(shut_texts), pairs)
    check_room(hall, goal)
    taken = taken_from_behind(shut_texts, behind, goal)[0]
    return [place for place in range(len(shut_texts)) if place not in taken]


def a_call_later(shut_texts, behind, wave):
    """Each tuple of places left and room where one may stand a call behind such ones, as the keys of a dict."""
    found = {}
    for left, room in wave:
        for place in left:
            if not any([place in behind[ahead] for ahead in left]):
                rest = tuple([other_place for other_place in left if other_place != place])
                found[(rest, written_over(shut_texts[place], room))] = True
    return found


def ends(hall, calls, pairs, room):
    """The rising list of rooms in which some order ends."""
    shut_texts = shut_calls(hall, calls, MOST_ORDERED)
    behind = must_follow(len(shut_texts), pairs)
    check_room(hall, room)
    places = tuple(range(len(shut_texts)))
    wave = {(places, room): True}
    for made in range(len(places)):
        wave = a_call_later(shut_texts, behind, wave)
    return sorted([stood for left, stood in wave])
