"""Parts: [6], [7] and the interface of nearcall/parts.py."""

import itertools
import unittest

import plain
from nearcall.errors import BadPart, BadRoom, Empty
from nearcall.halls import Hall
from nearcall.parts import first_room, has, is_empty, near, rooms_of, shut
from plain import caught

TWELVE = "abcdefghijkl"
NO_PARTS = ("d", "ad", "ba", "aa", "aA", "Aa", "aab", "abb", "bA", "acb", "a b", " ", "a\n", "1", ".a", "abcd", "a" * 4000)
NO_ROOMS = ("", "ab", "aBc", "abcd", "bac", "abd", "abc\n", "a" * 4000)


def hall():
    return Hall("abc", ["aB"])


class Ordinary(unittest.TestCase):
    def test_whole_hall(self):
        self.assertIs(is_empty(hall(), ""), False)
        self.assertEqual(shut(hall(), ""), "")
        self.assertEqual(rooms_of(hall(), ""), hall().rooms())
        self.assertEqual(first_room(hall(), ""), "ABC")
        for room in hall().rooms():
            self.assertEqual(near(hall(), "", room), room)
            self.assertIs(has(hall(), "", room), True)

    def test_shut(self):
        self.assertEqual(shut(hall(), "a"), "ab")
        self.assertEqual(shut(hall(), "ab"), "ab")
        self.assertEqual(shut(hall(), "B"), "AB")
        self.assertEqual(shut(hall(), "bC"), "bC")
        self.assertEqual(shut(hall(), "abC"), "abC")

    def test_shut_by_several_sides(self):
        wide = Hall("abcdef", ["aB", "bC", "Ef"])
        self.assertEqual(shut(wide, "aE"), "abcEF")
        self.assertEqual(shut(wide, "Cf"), "ABCef")

    def test_near(self):
        self.assertEqual(near(hall(), "a", "ABC"), "abC")
        self.assertEqual(near(hall(), "B", "abc"), "ABc")
        self.assertEqual(near(hall(), "C", "abc"), "abC")
        self.assertEqual(near(hall(), "ab", "abc"), "abc")

    def test_has(self):
        self.assertIs(has(hall(), "a", "abc"), True)
        self.assertIs(has(hall(), "a", "Abc"), False)
        self.assertIs(has(hall(), "bC", "AbC"), True)
        self.assertIs(has(hall(), "bC", "Abc"), False)

    def test_rooms_of(self):
        self.assertEqual(rooms_of(hall(), "c"), ["ABc", "Abc", "abc"])
        self.assertEqual(rooms_of(hall(), "a"), ["abC", "abc"])
        self.assertEqual(rooms_of(hall(), "ABc"), ["ABc"])

    def test_first_room(self):
        self.assertEqual(first_room(hall(), "c"), "ABc")
        self.assertEqual(first_room(hall(), "a"), "abC")
        self.assertEqual(first_room(hall(), "abc"), "abc")

    def test_first_room_where_no_great_sides_go_together(self):
        self.assertEqual(first_room(Hall("abc", ["AB", "BC"]), ""), "AbC")
        self.assertEqual(first_room(Hall("abc", ["AC", "Bc"]), ""), "Abc")

    def test_by_name(self):
        self.assertIs(is_empty(part="aB", hall=hall()), True)
        self.assertEqual(shut(part="a", hall=hall()), "ab")
        self.assertEqual(near(room="ABC", part="a", hall=hall()), "abC")
        self.assertIs(has(room="ABC", part="a", hall=hall()), False)
        self.assertEqual(rooms_of(part="ABC", hall=hall()), ["ABC"])
        self.assertEqual(first_room(part="ABc", hall=hall()), "ABc")


class EmptyParts(unittest.TestCase):
    def check_empty(self, place, part, wall):
        self.assertIs(is_empty(place, part), True)
        room = place.rooms()[0]
        for ask in (lambda: shut(place, part), lambda: near(place, part, room),
                    lambda: rooms_of(place, part), lambda: first_room(place, part)):
            refusal = caught(Empty, ask)
            self.assertEqual(refusal.wall, wall)
        for room in place.rooms():
            self.assertIs(has(place, part, room), False)

    def test_straight(self):
        # a forces b, B forces A: both walls are torn, a is the first.
        self.check_empty(hall(), "aB", "a")
        self.check_empty(hall(), "aBc", "a")

    def test_first_wall_is_not_always_the_first_of_the_part(self):
        self.check_empty(Hall("abcd", ["bC", "cD"]), "abD", "b")
        # b and d alone are told, but what they force tears a, too.
        self.check_empty(Hall("abcd", ["Ab", "ad"]), "bd", "a")

    def test_first_wall_forced_from_afar(self):
        place = Hall("abcd", ["Bc", "Ac", "bD", "aD"])
        self.assertEqual(shut(place, "c"), "abcd")
        self.check_empty(place, "cD", "a")

    def test_not_empty(self):
        self.assertIs(is_empty(hall(), "ab"), False)
        self.assertIs(is_empty(hall(), "B"), False)
        self.assertIs(is_empty(Hall("a"), "A"), False)


class Refused(unittest.TestCase):
    def test_bad_parts(self):
        for part in NO_PARTS:
            with self.subTest(part):
                self.assertRaises(BadPart, is_empty, hall(), part)
                self.assertRaises(BadPart, shut, hall(), part)
                self.assertRaises(BadPart, near, hall(), part, "abc")
                self.assertRaises(BadPart, has, hall(), part, "abc")
                self.assertRaises(BadPart, rooms_of, hall(), part)
                self.assertRaises(BadPart, first_room, hall(), part)

    def test_bad_rooms(self):
        for room in NO_ROOMS:
            with self.subTest(room):
                self.assertRaises(BadRoom, near, hall(), "a", room)
                self.assertRaises(BadRoom, near, hall(), "", room)
                self.assertRaises(BadRoom, has, hall(), "a", room)
                self.assertRaises(BadRoom, has, hall(), "", room)

    def test_bad_part_goes_ahead(self):
        for room in NO_ROOMS:
            self.assertRaises(BadPart, near, hall(), "ba", room)
            self.assertRaises(BadPart, has, hall(), "ba", room)

    def test_bad_part_goes_ahead_of_empty(self):
        # The sides aB alone would be an empty part.
        self.assertRaises(BadPart, shut, hall(), "aBd")
        self.assertRaises(BadPart, is_empty, hall(), "aBb")

    def test_empty_goes_ahead_of_bad_room(self):
        self.assertEqual(caught(Empty, near, hall(), "aB", "?").wall, "a")

    def test_has_of_an_empty_part_and_no_room(self):
        self.assertRaises(BadRoom, has, hall(), "aB", "aBc")

    def test_parts_with_gaps_and_great_letters_are_let_by(self):
        place = Hall("bdf")
        for part in plain.parts("bdf"):
            self.assertIs(is_empty(place, part), False)
        for part in ("a", "c", "e", "g", "bc", "cd"):
            self.assertRaises(BadPart, is_empty, place, part)


class AgainstTheDocument(unittest.TestCase):
    def test_all_parts_of_many_halls(self):
        for walls, bars in plain.small_halls():
            for part in plain.parts(walls):
                self.check_part(walls, bars, part)

    def check_part(self, walls, bars, part):
        place = Hall(walls, bars)
        found = [room for room in plain.rooms(walls, bars) if all(side in room for side in part)]
        forced = plain.forced_map(walls, bars)
        sides = {two for one in part for two in forced[one]}
        torn = [wall for wall in walls if wall in sides and wall.upper() in sides]
        self.assertEqual(torn == [], found != [])
        self.assertIs(is_empty(place, part), torn != [])
        if torn:
            self.assertEqual(caught(Empty, shut, place, part).wall, torn[0])
            self.assertEqual(caught(Empty, rooms_of, place, part).wall, torn[0])
            return
        self.assertEqual(shut(place, part), "".join(sorted(sides, key=str.lower)))
        self.assertEqual(rooms_of(place, part), found)
        self.assertEqual(first_room(place, part), found[0])
        for room in plain.rooms(walls, bars):
            self.assertIs(has(place, part, room), room in found)
            self.check_near(place, found, part, room)

    def check_near(self, place, found, part, room):
        steps = {goal: sum(one != two for one, two in zip(room, goal)) for goal in found}
        nearest = [goal for goal in found if steps[goal] == min(steps.values())]
        self.assertEqual(nearest, [near(place, part, room)])


class Wide(unittest.TestCase):
    def test_one_wall(self):
        place = Hall("k")
        self.assertEqual(rooms_of(place, ""), ["K", "k"])
        self.assertEqual(near(place, "K", "k"), "K")
        self.assertEqual(first_room(place, "k"), "k")

    def test_twelve_walls(self):
        place = Hall(TWELVE)
        self.assertEqual(len(rooms_of(place, "")), 4096)
        self.assertEqual(first_room(place, ""), TWELVE.upper())
        self.assertEqual(near(place, TWELVE.upper(), TWELVE), TWELVE.upper())
        self.assertEqual(rooms_of(place, TWELVE), [TWELVE])

    def test_twelve_walls_in_a_ladder(self):
        place = Hall(TWELVE, [one + two.upper() for one, two in itertools.pairwise(TWELVE)])
        self.assertEqual(shut(place, "a"), TWELVE)
        self.assertEqual(shut(place, "L"), TWELVE.upper())
        self.assertEqual(caught(Empty, shut, place, "aL").wall, "a")
        self.assertEqual(caught(Empty, shut, place, "dL").wall, "d")
        self.assertEqual(near(place, "f", TWELVE.upper()), "ABCDEfghijkl")
        self.assertEqual(first_room(place, "f"), "ABCDEfghijkl")


class Copies(unittest.TestCase):
    def test_lists_are_the_askers_own(self):
        place = hall()
        for part in ("", "a", "ABC"):
            told = rooms_of(place, part)
            before = list(told)
            told.append("x")
            told[0] = "y"
            self.assertEqual(rooms_of(place, part), before)
        self.assertEqual(place, hall())

    def test_a_refusal_changes_nothing(self):
        place = hall()
        self.assertRaises(Empty, near, place, "aB", "abc")
        self.assertRaises(BadPart, shut, place, "ba")
        self.assertEqual((place, place.rooms()), (hall(), hall().rooms()))


if __name__ == "__main__":
    unittest.main()
