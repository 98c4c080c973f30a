"""Halls: [2] to [5], and the interface of nearcall/halls.py."""

import itertools
import unittest

import plain
from nearcall.errors import Alike, BadBar, BadRoom, BadSide, BadWalls, Fixed
from nearcall.halls import WIDEST, Hall, chain, other
from plain import caught

TWELVE = "abcdefghijkl"
# A row of walls, each small side of which forces the next one.
LADDER = [one + two.upper() for one, two in itertools.pairwise(TWELVE)]
NO_WALLS = ("", "abcdefghijklm", "ba", "aa", "abb", "aBc", "A", "a b", "a1", "a\n", "-", "acb", " ")


class Sides(unittest.TestCase):
    def test_widest(self):
        self.assertEqual(WIDEST, 12)
        self.assertIs(type(WIDEST), int)

    def test_other(self):
        for small in "abcdefghijklmnopqrstuvwxyz":
            self.assertEqual(other(small), small.upper())
            self.assertEqual(other(small.upper()), small)

    def test_other_by_name(self):
        self.assertEqual(other(side="q"), "Q")


class Refused(unittest.TestCase):
    def test_bad_walls(self):
        for walls in NO_WALLS:
            with self.subTest(walls):
                self.assertRaises(BadWalls, Hall, walls)
                self.assertRaises(BadWalls, Hall, walls, ["aB"])
                self.assertRaises(BadWalls, chain, walls, (), "a", "a")

    def test_good_walls(self):
        for walls in ("a", "z", "az", "bdf", TWELVE, "opqrstuvwxyz"):
            self.assertEqual(Hall(walls).walls(), walls)

    def test_bad_bars(self):
        for bar in ("", "a", "aBc", "aa", "aA", "Aa", "ba", "BA", "Ba", "bA", "ad", "Da", "a ", " a", "a\n", "a-", "cb"):
            with self.subTest(bar):
                self.assertEqual(caught(BadBar, Hall, "abc", [bar]).at, 0)
                self.assertEqual(caught(BadBar, Hall, "abc", ("aB", "bC", bar)).at, 2)
                self.assertEqual(caught(BadBar, chain, "abc", ["aB", bar], "a", "a").at, 1)

    def test_bars_of_all_sides(self):
        for bar in ("ab", "aB", "Ab", "AB"):
            self.assertEqual(Hall("abc", [bar]).bars(), [bar])

    def test_bar_that_stands_ahead(self):
        self.assertEqual(caught(BadBar, Hall, "abc", ["aB", "aB"]).at, 1)
        self.assertEqual(caught(BadBar, Hall, "abc", ["aB", "bC", "aC", "bC", "aB"]).at, 3)
        self.assertEqual(caught(BadBar, chain, "abc", ("aB", "aB"), "a", "a").at, 1)

    def test_first_bad_bar(self):
        self.assertEqual(caught(BadBar, Hall, "abc", ["aB", "bB", "aB", "zz"]).at, 1)
        self.assertEqual(caught(BadBar, Hall, "abc", ["aB", "aB", "bB"]).at, 1)

    def test_fixed(self):
        # a forces b and B.
        self.assertEqual(caught(Fixed, Hall, "ab", ["aB", "ab"]).side, "a")
        self.assertEqual(caught(Fixed, Hall, "ab", ["AB", "Ab"]).side, "A")
        self.assertEqual(caught(Fixed, Hall, "abc", ["aB", "bC", "ac"]).side, "a")

    def test_first_fixed_side_rises(self):
        # The great letters go ahead of the small ones: C is fixed, and so is a.
        bars = ["aB", "ab", "bC", "BC"]
        self.assertEqual(plain.refusal("abc", bars), ("Fixed", "C"))
        self.assertEqual(caught(Fixed, Hall, "abc", bars).side, "C")

    def test_fixed_where_nobody_can_stand(self):
        self.assertEqual(caught(Fixed, Hall, "ab", ["ab", "aB", "Ab", "AB"]).side, "A")

    def test_alike(self):
        refusal = caught(Alike, Hall, "ab", ["aB", "Ab"])
        self.assertEqual((refusal.one, refusal.other), ("A", "B"))
        refusal = caught(Alike, Hall, "ab", ["ab", "AB"])
        self.assertEqual((refusal.one, refusal.other), ("A", "b"))

    def test_alike_by_a_ring(self):
        refusal = caught(Alike, Hall, "abcd", ["bC", "cD", "Bd"])
        self.assertEqual((refusal.one, refusal.other), ("B", "C"))

    def test_first_alike_rises(self):
        # A goes with b and with C; C goes ahead of b, for great letters do.
        refusal = caught(Alike, Hall, "abc", ["ab", "AB", "Ac", "aC"])
        self.assertEqual((refusal.one, refusal.other), ("A", "C"))

    def test_fixed_goes_ahead_of_alike(self):
        refusal = caught(Fixed, Hall, "abcd", ["aB", "Ab", "cD", "cd"])
        self.assertEqual(refusal.side, "c")

    def test_order_of_refusals(self):
        self.assertRaises(BadWalls, Hall, "ba", ["xx"])
        self.assertEqual(caught(BadBar, Hall, "ab", ["aB", "ab", "Ab", "b"]).at, 3)
        self.assertRaises(BadWalls, chain, "ba", ["xx"], "?", "?")
        self.assertRaises(BadBar, chain, "ab", ["xx"], "?", "?")

    def test_all_halls_of_three_walls(self):
        bars = plain.possible_bars("abc")
        self.assertEqual(len(bars), 12)
        for chosen in plain.subsets(bars):
            wanted = plain.refusal("abc", chosen)
            self.assertEqual(wanted is None, plain.let_by_rooms("abc", chosen))
            try:
                Hall("abc", chosen)
                told = None
            except Fixed as refusal:
                told = ("Fixed", refusal.side)
            except Alike as refusal:
                told = ("Alike", refusal.one, refusal.other)
            self.assertEqual(told, wanted, chosen)


class Chains(unittest.TestCase):
    def check_chain(self, walls, bars, one, two):
        found = chain(walls, bars, one, two)
        self.assertIs(type(found), list)
        self.assertEqual((found[0], found[-1]), (one, two))
        for side, later in itertools.pairwise(found):
            self.assertTrue(plain.straight(bars, side, later), (bars, found))
        return len(found)

    def test_of_itself(self):
        self.assertEqual(chain("abc", [], "B", "B"), ["B"])
        self.assertEqual(chain("a", (), "a", "a"), ["a"])

    def test_straight(self):
        self.assertEqual(chain("abc", ["aB"], "a", "b"), ["a", "b"])
        self.assertEqual(chain("abc", ["aB"], "B", "A"), ["B", "A"])

    def test_none(self):
        self.assertIsNone(chain("abc", ["aB"], "b", "a"))
        self.assertIsNone(chain("abc", ["aB"], "a", "B"))
        self.assertIsNone(chain("a", [], "a", "A"))

    def test_long(self):
        self.assertEqual(chain(TWELVE, LADDER, "a", "l"), list(TWELVE))
        self.assertEqual(chain(TWELVE, LADDER, "L", "A"), list(TWELVE.upper())[::-1])

    def test_short(self):
        # By way of b and c, or straight.
        self.assertEqual(chain("abcd", ["aB", "bC", "cD", "aD"], "a", "d"), ["a", "d"])

    def test_of_halls_not_let_by(self):
        self.assertEqual(chain("ab", ["aB", "Ab"], "b", "a"), ["b", "a"])
        self.assertEqual(self.check_chain("ab", ["aB", "ab"], "a", "A"), 3)
        self.assertEqual(self.check_chain("abc", ["aB", "bC", "ac"], "a", "A"), 4)

    def test_bad_sides(self):
        for side in ("", "ab", "d", "D", "1", " ", "\n", "aa", "abc", "Aa"):
            with self.subTest(side):
                self.assertRaises(BadSide, chain, "abc", ["aB"], side, "a")
                self.assertRaises(BadSide, chain, "abc", ["aB"], "a", side)

    def test_by_name(self):
        self.assertEqual(chain(two="b", one="a", bars=("aB",), walls="ab"), ["a", "b"])

    def test_shortest_of_all(self):
        bars = plain.possible_bars("abc")
        for chosen in itertools.combinations(bars, 4):
            for one in plain.rising_sides("abc"):
                lengths = self.lengths(chosen, one)
                for two in plain.rising_sides("abc"):
                    if two in lengths:
                        self.assertEqual(self.check_chain("abc", chosen, one, two), lengths[two])
                    else:
                        self.assertIsNone(chain("abc", chosen, one, two))

    def lengths(self, bars, one):
        """How many sides the shortest chain to each has."""
        found = {one: 1}
        for many in range(2, 8):
            wave = [side for side in found if found[side] == many - 1]
            for side in wave:
                for two in plain.rising_sides("abc"):
                    if two not in found and plain.straight(bars, side, two):
                        found[two] = many
        return found

    def test_nothing_handed_in_is_changed(self):
        bars = ["bC", "aB"]
        chain("abc", bars, "a", "c")
        self.assertEqual(bars, ["bC", "aB"])

    def test_told_list_is_the_askers_own(self):
        chain("abc", ["aB"], "a", "b").append("c")
        self.assertEqual(chain("abc", ["aB"], "a", "b"), ["a", "b"])


class Halls(unittest.TestCase):
    def test_walls_and_bars(self):
        hall = Hall("abc", ["bC", "aB"])
        self.assertEqual(hall.walls(), "abc")
        self.assertEqual(hall.bars(), ["aB", "bC"])

    def test_bars_rise_great_letters_ahead(self):
        hall = Hall("abcdef", ("eF", "aC", "aB", "CD", "Af"))
        self.assertEqual(hall.bars(), ["Af", "CD", "aB", "aC", "eF"])

    def test_bars_may_be_left_out(self):
        self.assertEqual(Hall("abc").bars(), [])

    def test_bars_as_list_and_tuple(self):
        self.assertEqual(Hall("abc", ["aB"]), Hall("abc", ("aB",)))

    def test_by_name(self):
        hall = Hall(bars=["aB"], walls="abc")
        self.assertEqual(hall.forced(side="a"), "ab")
        self.assertIs(hall.forces(two="b", one="a"), True)
        self.assertIs(hall.is_room(room="abc"), True)
        self.assertEqual(hall.doors(room="AbC"), ["abC", "ABC", "Abc"])
        self.assertEqual(hall.steps(goal="abc", room="ABC"), 3)
        self.assertEqual(hall.way(goal="abc", room="abC"), ["abC", "abc"])

    def test_forced(self):
        hall = Hall("abc", ["aB", "bC"])
        self.assertEqual(hall.forced("a"), "abc")
        self.assertEqual(hall.forced("b"), "bc")
        self.assertEqual(hall.forced("c"), "c")
        self.assertEqual(hall.forced("C"), "ABC")
        self.assertEqual(hall.forced("A"), "A")

    def test_forced_stands_by_walls_not_rising(self):
        self.assertEqual(Hall("abc", ["bc", "Ab"]).forced("b"), "abC")
        self.assertEqual(Hall("abc", ["bc", "Ab"]).forced("A"), "AB")

    def test_forces(self):
        hall = Hall("abc", ["aB", "bC"])
        self.assertIs(hall.forces("a", "c"), True)
        self.assertIs(hall.forces("a", "a"), True)
        self.assertIs(hall.forces("c", "a"), False)
        self.assertIs(hall.forces("C", "A"), True)
        self.assertIs(hall.forces("a", "A"), False)

    def test_bad_sides(self):
        hall = Hall("abc", ["aB"])
        for side in ("", "ab", "abc", "d", "D", "1", " ", "\n", "aA"):
            with self.subTest(side):
                self.assertRaises(BadSide, hall.forced, side)
                self.assertRaises(BadSide, hall.forces, side, "a")
                self.assertRaises(BadSide, hall.forces, "a", side)

    def test_forced_against_the_document(self):
        for walls, bars in plain.small_halls():
            hall, forced = Hall(walls, bars), plain.forced_map(walls, bars)
            for one in plain.rising_sides(walls):
                self.assertEqual(hall.forced(one), "".join(sorted(forced[one], key=str.lower)))
                for two in plain.rising_sides(walls):
                    self.assertIs(hall.forces(one, two), two in forced[one])

    def test_equal(self):
        hall = Hall("abc", ["aB", "bC"])
        self.assertTrue(hall == Hall("abc", ["bC", "aB"]))
        self.assertFalse(hall != Hall("abc", ["bC", "aB"]))
        for thing in (Hall("abc", ["aB"]), Hall("abd", ["aB"]), Hall("abcd", ["aB", "bC"]), Hall("abc")):
            self.assertFalse(hall == thing)
            self.assertTrue(hall != thing)

    def test_equal_to_the_same_forcing_by_other_bars_is_not_enough(self):
        one, two = Hall("abc", ["aB", "bC"]), Hall("abc", ["aB", "bC", "aC"])
        self.assertEqual(one.rooms(), two.rooms())
        self.assertFalse(one == two)

    def test_equal_to_nothing_else(self):
        hall = Hall("abc", ["aB"])
        for thing in ("abc aB", "abc", 3, None, True, ("abc", ["aB"]), ["abc"], repr(hall), {}):
            self.assertIs(hall == thing, False)
            self.assertIs(hall != thing, True)

    def test_len(self):
        self.assertEqual(len(Hall("q")), 1)
        self.assertEqual(len(Hall("abc", ["aB"])), 3)
        self.assertEqual(len(Hall(TWELVE)), 12)

    def test_str(self):
        self.assertEqual(str(Hall("abc", ["bC", "aB"])), "abc aB bC")
        self.assertEqual(str(Hall("abcd", ["aB", "CD"])), "abcd CD aB")
        self.assertEqual(str(Hall("abc")), "abc")

    def test_repr(self):
        self.assertEqual(repr(Hall("abc", ["bC", "aB"])), "Hall(3 walls, 2 bars)")
        self.assertEqual(repr(Hall("a")), "Hall(1 walls, 0 bars)")

    def test_methods_stand_in_the_class_itself(self):
        for name in ("walls", "bars", "forced", "forces", "is_room", "rooms", "doors", "steps", "way",
                     "__init__", "__eq__", "__len__", "__str__", "__repr__"):
            self.assertIn(name, vars(Hall))


class Rooms(unittest.TestCase):
    def test_is_room(self):
        hall = Hall("abc", ["aB"])
        self.assertIs(hall.is_room("abc"), True)
        self.assertIs(hall.is_room("aBc"), False)
        for text in ("", "a", "ab", "abcd", "bac", "cba", "aab", "abd", "abc ", " abc", "abc\n", "a\nc", "AaB", "xyz"):
            with self.subTest(text):
                self.assertIs(hall.is_room(text), False)
        self.assertIs(hall.is_room("a" * 4000), False)

    def test_rooms(self):
        self.assertEqual(Hall("ab").rooms(), ["AB", "Ab", "aB", "ab"])
        self.assertEqual(Hall("abc", ["aB"]).rooms(), ["ABC", "ABc", "AbC", "Abc", "abC", "abc"])

    def test_rooms_against_the_document(self):
        for walls, bars in plain.small_halls():
            hall = Hall(walls, bars)
            self.assertEqual(hall.rooms(), plain.rooms(walls, bars))
            for sides in itertools.product(*[(wall, wall.upper()) for wall in walls]):
                self.assertIs(hall.is_room("".join(sides)), "".join(sides) in hall.rooms())

    def test_doors(self):
        hall = Hall("abc", ["aB"])
        self.assertEqual(hall.doors("abc"), ["Abc", "abC"])
        self.assertEqual(hall.doors("ABC"), ["AbC", "ABc"])

    def test_steps(self):
        hall = Hall("abc", ["aB"])
        self.assertEqual(hall.steps("abc", "abc"), 0)
        self.assertEqual(hall.steps("abc", "ABC"), 3)
        self.assertEqual(hall.steps("abC", "ABC"), 2)

    def test_way(self):
        hall = Hall("ab", ["aB"])
        self.assertEqual(hall.way("ab", "ab"), ["ab"])
        # There is but one: aB is no room.
        self.assertEqual(hall.way("ab", "AB"), ["ab", "Ab", "AB"])
        self.assertEqual(hall.way("AB", "ab"), ["AB", "Ab", "ab"])

    def test_doors_steps_and_ways_against_the_document(self):
        for walls, bars in plain.small_halls():
            hall, rooms = Hall(walls, bars), plain.rooms(walls, bars)
            for room in rooms:
                far = plain.far(rooms, room)
                behind = [goal for goal in rooms if far[goal] == 1]
                differing = [[one != two for one, two in zip(room, goal)].index(True) for goal in hall.doors(room)]
                self.assertEqual(sorted(hall.doors(room)), behind)
                self.assertEqual(differing, sorted(differing))
                for goal in rooms:
                    self.assertEqual(hall.steps(room, goal), far[goal])
                    self.check_way(hall, rooms, room, goal)

    def check_way(self, hall, rooms, room, goal):
        way = hall.way(room, goal)
        self.assertEqual((way[0], way[-1]), (room, goal))
        self.assertEqual(len(way) - 1, sum(one != two for one, two in zip(room, goal)))
        for passed in way:
            self.assertIn(passed, rooms)
        for one, two in itertools.pairwise(way):
            self.assertEqual(sum(a != b for a, b in zip(one, two)), 1)

    def test_bad_rooms(self):
        hall = Hall("abc", ["aB"])
        for text in ("aBc", "", "ab", "abcd", "bac", "abd", "abc\n", "aBC"):
            with self.subTest(text):
                self.assertRaises(BadRoom, hall.doors, text)
                self.assertRaises(BadRoom, hall.steps, text, "abc")
                self.assertRaises(BadRoom, hall.steps, "abc", text)
                self.assertRaises(BadRoom, hall.steps, text, text)
                self.assertRaises(BadRoom, hall.way, text, "abc")
                self.assertRaises(BadRoom, hall.way, "abc", text)
                self.assertRaises(BadRoom, hall.way, text, text)


class Edges(unittest.TestCase):
    def test_one_wall(self):
        hall = Hall("z")
        self.assertEqual(hall.rooms(), ["Z", "z"])
        self.assertEqual(hall.doors("z"), ["Z"])
        self.assertEqual(hall.way("Z", "z"), ["Z", "z"])
        self.assertEqual(hall.forced("Z"), "Z")
        self.assertEqual((str(hall), len(hall), repr(hall)), ("z", 1, "Hall(1 walls, 0 bars)"))
        self.assertEqual(caught(BadBar, Hall, "z", ["zZ"]).at, 0)

    def test_twelve_walls_without_bars(self):
        hall = Hall(TWELVE)
        rooms = hall.rooms()
        self.assertEqual(len(rooms), 4096)
        self.assertEqual(rooms, sorted(rooms))
        self.assertEqual((rooms[0], rooms[-1]), (TWELVE.upper(), TWELVE))
        self.assertEqual(len(hall.doors(TWELVE)), 12)
        self.assertEqual(hall.steps(TWELVE, TWELVE.upper()), 12)
        self.assertEqual(len(hall.way(TWELVE, TWELVE.upper())), 13)
        self.assertEqual(repr(hall), "Hall(12 walls, 0 bars)")

    def test_twelve_walls_in_a_ladder(self):
        hall = Hall(TWELVE, LADDER)
        wanted = sorted(TWELVE[:at].upper() + TWELVE[at:] for at in range(13))
        self.assertEqual(hall.rooms(), wanted)
        self.assertEqual(hall.forced("a"), TWELVE)
        self.assertEqual(hall.forced("L"), TWELVE.upper())
        self.assertEqual(hall.way(TWELVE.upper(), TWELVE), sorted(wanted))
        self.assertEqual(str(hall), TWELVE + " " + " ".join(LADDER))

    def test_twelve_walls_with_many_bars(self):
        # Nobody stands on two small sides.
        bars = [one + two for one, two in itertools.combinations(TWELVE, 2)]
        hall = Hall(TWELVE, bars)
        self.assertEqual(len(hall.rooms()), 13)
        self.assertEqual(hall.rooms(), plain.rooms(TWELVE, bars))
        self.assertEqual(hall.forced("c"), "ABcDEFGHIJKL")
        self.assertEqual(hall.doors(TWELVE.upper()), [TWELVE.upper().replace(wall.upper(), wall) for wall in TWELVE])
        self.assertEqual(repr(hall), "Hall(12 walls, 66 bars)")

    def test_all_bars_that_there_are(self):
        bars = plain.possible_bars(TWELVE)
        self.assertEqual(caught(Fixed, Hall, TWELVE, bars).side, "A")
        self.assertEqual(caught(BadBar, Hall, TWELVE, bars + ["aB"]).at, 264)

    def test_bars_that_force_by_way_of_a_later_wall(self):
        # a forces c, c forces b: so no room begins with aB, though that is no bar.
        hall = Hall("abc", ["aC", "Bc"])
        self.assertEqual(hall.rooms(), ["ABC", "AbC", "Abc", "abc"])


class Copies(unittest.TestCase):
    def test_what_is_handed_in_is_not_changed(self):
        bars = ["bC", "aB"]
        hall = Hall("abc", bars)
        hall.rooms()
        self.assertEqual(bars, ["bC", "aB"])

    def test_what_is_handed_in_is_kept_as_a_copy(self):
        bars = ["aB"]
        hall = Hall("abc", bars)
        bars.append("bC")
        bars[0] = "ab"
        self.assertEqual(hall, Hall("abc", ["aB"]))
        self.assertEqual(hall.forced("a"), "ab")

    def test_what_is_told_is_the_askers_own(self):
        hall = Hall("abc", ["aB"])
        for ask in (hall.bars, hall.rooms, lambda: hall.doors("abc"), lambda: hall.way("abc", "ABC")):
            told = ask()
            before = list(told)
            told.append("x")
            told[0] = "y"
            self.assertIs(type(told), list)
            self.assertEqual(ask(), before)
        self.assertEqual(str(hall), "abc aB")


if __name__ == "__main__":
    unittest.main()
