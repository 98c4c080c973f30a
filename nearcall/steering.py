"""Steering: which rooms can be come to by some calls, each as often as one likes, and by which row of them."""

from nearcall.calls import alike_beside, shut_calls, stray_sides, taken_from_behind, walls_written
from nearcall.errors import TooMany
from nearcall.halls import check_room
from nearcall.parts import written_over
from nearcall.tables import of_call, of_turn, room_behind
from nearcall.turns import checked_turn, sides_over

MOST_CALLS = 12
MOST_TURNS = 400


def taken_in_any_order(shut_texts, goal):
    """What is taken from behind where no call must come behind another one."""
    return taken_from_behind(shut_texts, [() for written in shut_texts], goal)


def from_behind(hall, calls, goal):
    """The list of places that are taken for a goal, as taken, and the text of the walls that they write."""
    shut_texts = shut_calls(hall, calls, MOST_CALLS)
    check_room(hall, goal)
    taken = taken_in_any_order(shut_texts, goal)[0]
    return (taken, walls_written(hall, [shut_texts[place] for place in taken]))


def steer(hall, calls, room, goal):
    """A list of places whose calls lead from a room to the goal, or None."""
    shut_texts = shut_calls(hall, calls, MOST_CALLS)
    check_room(hall, room)
    check_room(hall, goal)
    taken, walls = taken_in_any_order(shut_texts, goal)
    return taken[::-1] if alike_beside(walls, room, goal) else None


def barred_by(hall, calls, goal):
    """A list of pairs: each place that isn't taken, and the first side by which its call isn't good."""
    shut_texts = shut_calls(hall, calls, MOST_CALLS)
    check_room(hall, goal)
    taken, walls = taken_in_any_order(shut_texts, goal)
    left = [place for place in range(len(shut_texts)) if place not in taken]
    return [(place, stray_sides(shut_texts[place], walls, goal)[0]) for place in left]


def blind(hall, calls, goal):
    """A list of places whose calls lead from every room to the goal, or None."""
    taken, walls = from_behind(hall, calls, goal)
    # On each wall somebody stands on the side that isn't the goal's, so all walls must be written.
    return taken[::-1] if walls == hall.walls() else None


def longer_lists(lists, count):
    """Rising lists of so many places, a place longer; where the ones handed in rise, these do."""
    return [had + [place] for had in lists for place in range(count) if not had or had[-1] < place]


def gather(hall, calls):
    """The fewest places behind whose calls all stand in one room, the least such list, or None."""
    shut_texts = shut_calls(hall, calls, MOST_CALLS)
    lists = [[]]
    while lists:
        for places in lists:
            # All stand in one room just where each wall is written, in whatever order.
            if walls_written(hall, [shut_texts[place] for place in places]) == hall.walls():
                return places
        lists = longer_lists(lists, len(shut_texts))
    return None


def lean(hall, calls):
    """Of the calls as a row, the rising list of places that write a wall that no later one writes."""
    shut_texts = shut_calls(hall, calls, MOST_CALLS)
    found = []
    for place, written in enumerate(shut_texts):
        later = walls_written(hall, shut_texts[place + 1:])
        if any([wall not in later for wall in written.lower()]):
            found.append(place)
    return found


def rooms_met(hall, moves, room):
    """A dict from each room that moves lead to from a room to the move and the room ahead of it, None for the first.

    The moves are pairs: a name, and the entries of a table.
    """
    ahead = {room: None}
    wave = [room]
    while wave:
        later = []
        for stood in wave:
            for name, entries in moves:
                met = room_behind(hall.walls(), entries, stood)
                if met not in ahead:
                    ahead[met] = (name, stood)
                    later.append(met)
        wave = later
    return ahead


def call_moves(hall, calls):
    return [(("call", place), of_call(hall, part).entries()) for place, part in enumerate(calls)]


def come_to(hall, calls, room, *, most=256):
    """The rising list of rooms that can be come to from a room by the calls."""
    shut_calls(hall, calls, MOST_CALLS)
    check_room(hall, room)
    if len(hall.rooms()) > most:
        raise TooMany(most)
    return sorted(rooms_met(hall, call_moves(hall, calls), room))


def behind_calls(hall, calls, places, room):
    """The room behind the calls of these places, one by one."""
    shut_texts = shut_calls(hall, calls, MOST_CALLS)
    check_room(hall, room)
    stood = room
    for place in places:
        stood = written_over(shut_texts[place], stood)
    return stood


def turns_made(hall, intos):
    """A dict of all turns that some turns make, one behind the other; each is told by what its sides go over into."""
    found = {hall.walls(): True}
    wave = [hall.walls()]
    while wave:
        later = []
        for turn in wave:
            for into in intos:
                met = sides_over(into, turn)
                if met not in found:
                    found[met] = True
                    later.append(met)
        if len(found) > MOST_TURNS:
            raise TooMany(MOST_TURNS)
        wave = later
    return found


def needed_turns(hall, intos):
    """The places of a few turns that make all that these make: those that the ones ahead of them don't make."""
    needed = []
    made = turns_made(hall, [])
    for place, into in enumerate(intos):
        if sides_over(into, hall.walls()) not in made:
            needed.append(place)
            made = turns_made(hall, [intos[had] for had in needed])
    return needed


def steps_back(ahead, goal):
    """The list of the moves that lead to a goal that is met."""
    found = []
    step = ahead[goal]
    while step is not None:
        found.append(step[0])
        step = ahead[step[1]]
    return found[::-1]


def steer_turning(hall, calls, turns, room, goal):
    """A list of calls and turns, by their places, that lead from a room to the goal, or None."""
    shut_calls(hall, calls, MOST_CALLS)
    intos = [checked_turn(hall, turn) for turn in turns]
    check_room(hall, room)
    check_room(hall, goal)
    moves = call_moves(hall, calls)
    moves += [(("turn", place), of_turn(hall, turns[place]).entries()) for place in needed_turns(hall, intos)]
    ahead = rooms_met(hall, moves, room)
    return steps_back(ahead, goal) if goal in ahead else None
