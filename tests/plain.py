"""What the document says, worked out by trying everything or step by step, to hold the program against."""

import copy
import functools
import itertools
import random


def caught(kind, asked, *things, **named):
    """The refusal that asking raises."""
    try:
        asked(*things, **named)
    except kind as refusal:
        return refusal
    raise AssertionError(f"{kind.__name__} was not raised")


def swap(side):
    return side.lower() if side.isupper() else side.upper()


def rising_sides(walls):
    return sorted([side for wall in walls for side in (wall, wall.upper())])


def possible_bars(walls):
    return [one + two for low, high in itertools.combinations(walls, 2)
            for one in (low, low.upper()) for two in (high, high.upper())]


def straight(bars, one, two):
    """Whether one forces two straight."""
    return one + swap(two) in bars or swap(two) + one in bars


def forced_map(walls, bars):
    """Each side with the set of those it forces: the least sets closed under forcing straight."""
    sides = rising_sides(walls)
    forced = {side: {side} for side in sides}
    grown = True
    while grown:
        grown = False
        for side in sides:
            more = {two for one in forced[side] for two in sides if straight(bars, one, two)}
            if not more <= forced[side]:
                forced[side] |= more
                grown = True
    return forced


def rooms(walls, bars):
    """All rooms, rising, as [4] says."""
    tried = ["".join(sides) for sides in itertools.product(*[(wall, wall.upper()) for wall in walls])]
    return sorted(room for room in tried if not any(bar[0] in room and bar[1] in room for bar in bars))


def refusal(walls, bars):
    """("Fixed", side), ("Alike", one, other) or None."""
    forced = forced_map(walls, bars)
    for side in sorted(forced):
        if swap(side) in forced[side]:
            return ("Fixed", side)
    for side in sorted(forced):
        for two in sorted(forced[side]):
            if two.lower() != side.lower() and side in forced[two]:
                return ("Alike", side, two)
    return None


def let_by_rooms(walls, bars):
    """Whether each side is in some room, and no two walls always go together."""
    found = rooms(walls, bars)
    each = all(any(side in room for room in found) for side in rising_sides(walls))
    together = any(len({(one in room) == (two in room) for room in found}) < 2
                   for one, two in itertools.combinations(walls, 2))
    return each and not together


def far(found, room):
    """How many steps lead from a room to each, through doors alone."""
    steps = {room: 0}
    wave = [room]
    while wave:
        later = []
        for one in wave:
            for two in found:
                if two not in steps and sum(a != b for a, b in zip(one, two)) == 1:
                    steps[two] = steps[one] + 1
                    later.append(two)
        wave = later
    return steps


def parts(walls):
    """All texts that tell parts."""
    return ["".join(sides) for sides in itertools.product(*[("", wall, wall.upper()) for wall in walls])]


def subsets(things):
    for many in range(len(things) + 1):
        yield from itertools.combinations(things, many)


def some_halls(walls, many, seed):
    """Walls and bars of some halls that are let by, always the same ones."""
    chance = random.Random(seed)
    bars = possible_bars(walls)
    found = []
    while len(found) < many:
        chosen = chance.sample(bars, chance.randint(0, len(walls) + 2))
        if refusal(walls, chosen) is None:
            found.append((walls, chosen))
    return found


def small_halls():
    """Walls and bars of all halls of one and two walls, and many wider ones, that are let by."""
    found = [("a", ())] + [("bx", bars) for bars in subsets(possible_bars("bx")) if refusal("bx", bars) is None]
    for at, walls in enumerate(("abc", "cmz", "abcd", "fhkz", "abcde")):
        found += some_halls(walls, 12, at)
    return found


def side_texts(walls):
    """All texts of one side of each wall, in any order of the walls."""
    for order in itertools.permutations(walls):
        for sides in itertools.product(*[(wall, wall.upper()) for wall in order]):
            yield "".join(sides)


def into(walls, turn, side):
    """What a side goes over into."""
    met = turn[walls.index(side.lower())]
    return met if side.islower() else swap(met)


def keeps(walls, forced, turn):
    """Whether by a text of one side of each wall a side forces another just where what they go over into does."""
    sides = rising_sides(walls)
    return all((two in forced[one]) == (into(walls, turn, two) in forced[into(walls, turn, one)])
               for one in sides for two in sides)


def turns(walls, bars):
    forced = forced_map(walls, bars)
    return [turn for turn in side_texts(walls) if keeps(walls, forced, turn)]


def by_letter(sides):
    return "".join(sorted(sides, key=str.lower))


def turning_halls():
    """Walls and bars of halls that have turns more than the one that turns nothing."""
    return [("a", ()), ("ab", ()), ("abc", ()), ("abc", ("aB",)), ("abc", ("ab", "ac", "bc")), ("bdfh", ("bD", "dF", "fH")),
            ("abcd", ("aB", "cD")), ("abcd", ("AB", "BC", "CD", "AD")), ("abcd", ("ab", "CD"))]


def called(walls, bars, part, room):
    """The nearest room of a part, by trying all rooms; there must be just one."""
    found = [goal for goal in rooms(walls, bars) if all(side in goal for side in part)]
    steps = [sum(one != two for one, two in zip(room, goal)) for goal in found]
    (nearest,) = [goal for goal, many in zip(found, steps) if many == min(steps)]
    return nearest


def stepped(walls, bars, step, room):
    """The room behind a call or a turn."""
    if step[0] == "call":
        return called(walls, bars, step[1], room)
    return by_letter(into(walls, step[1], side) for side in room)


def one_by_one(row, book):
    """The calls and turns of a row, one by one, as often as they are done."""
    for step in row[1]:
        if step[0] == "times":
            for _ in range(step[1]):
                yield from one_by_one(step[2], book)
        elif step[0] == "row":
            yield from one_by_one(book[step[1]], book)
        else:
            yield step


def entry_choices(walls, wall):
    return ["=" + wall, "=" + wall.upper(), *rising_sides(walls)]


def stands_behind(wall, entry, room):
    """On which side of a wall one from a room stands behind an entry, as [9] says."""
    if entry[0] == "=":
        return entry[1]
    return wall if entry in room else wall.upper()


def led(walls, entries, room):
    return "".join(stands_behind(wall, entry, room) for wall, entry in zip(walls, entries))


def entries_of(walls, leads):
    """The entries that lead each room as a dict does; there must be just one for each wall."""
    found = []
    for at, wall in enumerate(walls):
        (entry,) = [entry for entry in entry_choices(walls, wall)
                    if all(stands_behind(wall, entry, room) == leads[room][at] for room in leads)]
        found.append(entry)
    return tuple(found)


def roomy_parts(walls, bars):
    """All parts that aren't empty."""
    found = rooms(walls, bars)
    return [part for part in parts(walls) if any(all(side in room for side in part) for room in found)]


def some_steps(walls, bars, many, chance):
    """Some calls to parts that aren't empty, and turns."""
    roomy, known = roomy_parts(walls, bars), turns(walls, bars)
    return [("call", chance.choice(roomy)) if chance.random() < 0.4 else ("turn", chance.choice(known))
            for _ in range(many)]


def some_calls(walls, bars, many, chance):
    """Some calls, a list of parts; mostly to parts of few sides, some perhaps twice."""
    roomy = sorted(roomy_parts(walls, bars), key=len)
    return [roomy[min(chance.randrange(len(roomy)), chance.randrange(len(roomy)))] for _ in range(many)]


def shut_text(walls, bars, part):
    """All sides that a part's sides force, by walls."""
    forced = forced_map(walls, bars)
    return by_letter({met for side in part for met in forced[side]})


def leads(walls, bars, calls):
    """For each call a dict from each room to the one that it leads to."""
    return [{room: called(walls, bars, part, room) for room in rooms(walls, bars)} for part in calls]


def reached(moves, room):
    """All rooms to which rows of moves, dicts from rooms to rooms, lead."""
    found = {room}
    wave = [room]
    while wave:
        wave = sorted({move[one] for one in wave for move in moves} - found)
        found.update(wave)
    return found


def all_done(moves, found):
    """All that rows of moves do with all rooms: the tuples of the rooms behind."""
    known = {tuple(found)}
    wave = [tuple(found)]
    while wave:
        wave = sorted({tuple(move[room] for room in behind) for behind in wave for move in moves} - known)
        known.update(wave)
    return known


def one_behind_another(moves, places, room):
    for place in places:
        room = moves[place][room]
    return room


def kept_orders(many, pairs):
    """All orders of so many places that keep the pairs."""
    return [order for order in itertools.permutations(range(many))
            if all(order.index(one) < order.index(two) for one, two in pairs)]


def some_pairs(many, count, chance):
    """Some pairs that close no ring."""
    order = chance.sample(range(many), many)
    chosen = [sorted(chance.sample(range(many), 2)) for _ in range(count if many > 1 else 0)]
    return [(order[one], order[two]) for one, two in chosen]


def all_stories(moves, room, goal):
    """The tuples of lost places of all stories."""
    return [lost for lost in subsets(range(len(moves)))
            if one_behind_another(moves, [at for at in range(len(moves)) if at not in lost], room) == goal]


def spoil(told):
    """Changes each list and dict in what was told."""
    if isinstance(told, (list, tuple)):
        for thing in told:
            spoil(thing)
    if isinstance(told, list):
        told.reverse()
        told.append("spoilt")
    if isinstance(told, dict):
        told["spoilt"] = True


def told_again(asked):
    """What is told when asked again, behind what was told at first was spoilt; both must be the same."""
    first = asked()
    kept = copy.deepcopy(first)
    spoil(first)
    again = asked()
    if again != kept:
        raise AssertionError(f"{again!r} was told behind {kept!r}")
    return again




class Refused(Exception):
    """A refusal of the plain crowd: the class's name, then its values."""


def check(holds, *told):
    if not holds:
        raise Refused(*told)


def check_row_steps(walls, bars, row, book, begun, ended):
    """[12] step by step, the steps of a name but once and those of a group once."""
    forced = forced_map(walls, bars)
    for step in row[1]:
        if step[0] == "call":
            check(step[1] in parts(walls), "BadPart")
            sides = {met for side in step[1] for met in forced[side]}
            torn = [wall for wall in walls if wall in sides and swap(wall) in sides]
            check(not torn, "Empty", *torn[:1])
        elif step[0] == "turn":
            check(step[1] in known_turns(walls, tuple(bars)), "BadTurn")
        elif step[0] == "times":
            check_row_steps(walls, bars, step[2], book, begun, ended)
        else:
            check(step[1] in book, "NoRow", step[1])
            check(step[1] not in begun, "Ring", step[1])
            if step[1] not in ended:
                check_row_steps(walls, bars, book[step[1]], book, begun + [step[1]], ended)
                ended.append(step[1])


@functools.lru_cache(maxsize=None)
def known_turns(walls, bars):
    return turns(walls, bars)


def is_plain_name(name):
    return 1 <= len(name) <= 8 and all("a" <= sign <= "z" for sign in name)


class PlainState:
    """Walls, bars, walkers with their rooms and blames, rows; deeds change it, one call and turn after the other."""

    def __init__(self, walls, bars):
        self.walls, self.bars, self.walkers, self.book = walls, sorted(bars), {}, {}

    def done(self, deed, number):
        """Refuses or does a deed of the step of this number, upon what it stands on itself."""
        getattr(self, "do_" + deed[0])(number, *deed[1:])

    def do_come(self, number, name, room):
        check(is_plain_name(name), "BadName")
        check(name not in self.walkers, "Taken", name)
        check(len(self.walkers) < 8, "Full", 8)
        check(room in rooms(self.walls, self.bars), "BadRoom")
        self.walkers[name] = [room, {wall: -1 for wall in self.walls}]

    def do_go(self, number, name):
        check(name in self.walkers, "NoWalker", name)
        del self.walkers[name]

    def do_tell(self, number, name, row):
        check(is_plain_name(name), "BadName")
        check(name in self.book or len(self.book) < 8, "Full", 8)
        check(isinstance(row, tuple) and len(row) == 2 and row[0] == "steps", "BadTree")
        self.book[name] = row

    def do_untell(self, number, name):
        check(name in self.book, "NoRow", name)
        del self.book[name]

    def do_lead(self, number, row, names):
        for name in names:
            check(name in self.walkers, "NoWalker", name)
        check(isinstance(row, tuple) and len(row) == 2 and row[0] == "steps", "BadTree")
        check_row_steps(self.walls, self.bars, row, self.book, [], [])
        for name in set(names or self.walkers):
            self.lead_one(self.walkers[name], number, row)

    def lead_one(self, walker, number, row):
        for step in one_by_one(row, self.book):
            walker[0] = stepped(self.walls, self.bars, step, walker[0])
            if step[0] == "call":
                walker[1].update({wall: number for wall in shut_text(self.walls, self.bars, step[1]).lower()})
            else:
                walker[1] = {into(self.walls, step[1], wall).lower(): walker[1][wall] for wall in self.walls}

    def take_hall(self, walls, bars):
        """Another hall, where it is let by and nobody stands in the way."""
        refused = refusal(walls, bars)
        if refused is not None:
            raise Refused(*refused)
        for name in sorted(self.walkers):
            check(self.walkers[name][0] in rooms(walls, bars), "InWay", name)
        self.walls, self.bars = walls, sorted(bars)

    def do_bar(self, number, bar):
        check(bar in possible_bars(self.walls) and bar not in self.bars, "BadBar", 0)
        self.take_hall(self.walls, self.bars + [bar])

    def do_unbar(self, number, bar):
        check(bar in self.bars, "NoBar")
        self.bars.remove(bar)

    def do_put(self, number, wall, bars):
        small = len(wall) == 1 and "a" <= wall <= "z"
        check(small and wall not in self.walls and len(self.walls) < 12, "BadWalls")
        walls = "".join(sorted(self.walls + wall))
        for at, bar in enumerate(bars):
            own = bar in possible_bars(walls) and wall in bar.lower()
            check(own and bar not in bars[:at], "BadBar", at)
        for walker in self.walkers.values():
            walker[0] = by_letter(walker[0] + wall)
            walker[1][wall] = -1
        self.take_hall(walls, self.bars + list(bars))

    def do_merge(self, number, wall):
        check(wall in list(self.walls), "NoWall")
        check(len(self.walls) > 1, "BadWalls")
        walls = "".join(one for one in self.walls if one != wall)
        found = rooms(self.walls, self.bars)
        self.bars = sorted(bar for bar in possible_bars(walls)
                           if not any(bar[0] in room and bar[1] in room for room in found))
        self.walls = walls
        for walker in self.walkers.values():
            walker[0] = "".join(side for side in walker[0] if side.lower() != wall)
            del walker[1][wall]

    def told(self):
        """All that can be asked of how it stands."""
        blames = {name: tuple(walker[1][wall] for wall in self.walls) for name, walker in self.walkers.items()}
        return (self.walls, self.bars, {name: walker[0] for name, walker in self.walkers.items()}, blames, self.book)


class PlainCrowd:
    """The steps alone: how it stands is worked out from the beginning each time."""

    def __init__(self, walls, bars):
        self.first = PlainState(walls, bars)
        self.steps, self.undone = [], []

    def behind(self, steps):
        state = copy.deepcopy(self.first)
        for number, deeds in enumerate(steps):
            for deed in deeds:
                state.done(deed, number)
        return state

    def all_of(self, deeds):
        self.behind(self.steps + [deeds])
        self.steps.append(deeds)
        self.undone = []

    def undo(self):
        check(self.steps, "NothingLeft")
        self.undone.append(self.steps.pop())
        return self.undone[-1]

    def redo(self):
        check(self.undone, "NothingLeft")
        self.steps.append(self.undone.pop())
        return self.steps[-1]

    def strike(self, at):
        check(0 <= at < len(self.steps), "NoStep", at)
        for later in range(at + 1, len(self.steps)):
            try:
                self.behind(self.steps[:at] + self.steps[at + 1:later + 1])
            except Refused:
                raise Refused("Hangs", later) from None
        del self.steps[at]
        self.undone = []

    def told(self):
        return self.behind(self.steps).told()
