"""Turns: [8] and the interface of nearcall/turns.py."""

import itertools
import random
import unittest

import plain
from nearcall.errors import BadPart, BadRoom, BadTurn
from nearcall.halls import Hall
from nearcall.turns import back_turn, is_turn, over, round_of, still_turn, turn_behind, turned

TWELVE = "abcdefghijkl"
# In the hall of abc with the bar aB, a forces b and B forces A.
NO_TURNS = ("", "a", "ab", "bA", "abcc", "abca", "abcd", "aab", "aAb", "abB", "aAa", "abd", "abx", "ab1", "ab ", " ab",
            "ab\n", "ab=", "...", "   ", "abc abc", "abc\n", "abc" * 1333,
            # One side of each wall, but other sides force one another behind.
            "bac", "aBc", "Abc", "ABc", "acb", "cba", "bca", "baC", "ABC", "cab", "bAc", "Bac")
NO_ROOMS = ("", "ab", "aBc", "abcd", "bac", "abd", "abc\n", "a" * 4000)
NO_PARTS = ("d", "ba", "aa", "aA", "Aa", "abcd", " ", "a\n", "1", "a" * 4000)


def hall():
    return Hall("abc", ["aB"])


class Ordinary(unittest.TestCase):
    def test_is_turn(self):
        for turn in ("abc", "abC", "BAc", "BAC"):
            self.assertIs(is_turn(hall(), turn), True)

    def test_texts_that_are_none(self):
        for turn in NO_TURNS:
            with self.subTest(turn):
                self.assertIs(is_turn(hall(), turn), False)

    def test_still_turn(self):
        self.assertEqual(still_turn(hall()), "abc")
        self.assertEqual(still_turn(Hall("kqz", ["kQ"])), "kqz")
        self.assertEqual(still_turn(Hall("z")), "z")

    def test_turned(self):
        # a goes over into B, A into b, b into A, B into a, c into C.
        self.assertEqual(turned(hall(), "BAC", "abc"), "ABC")
        self.assertEqual(turned(hall(), "BAC", "Abc"), "AbC")
        self.assertEqual(turned(hall(), "BAc", "ABc"), "abc")
        self.assertEqual(turned(Hall("abc"), "bcA", "abC"), "abc")
        self.assertEqual(turned(Hall("abc"), "bcA", "aBc"), "AbC")

    def test_over(self):
        self.assertEqual(over(hall(), "BAC", ""), "")
        self.assertEqual(over(hall(), "BAC", "a"), "B")
        self.assertEqual(over(hall(), "BAC", "bc"), "AC")
        # The sides stand by walls again, whatever they came from.
        self.assertEqual(over(hall(), "BAc", "Ab"), "Ab")
        self.assertEqual(over(Hall("abc"), "caB", "ab"), "ac")
        self.assertEqual(over(Hall("abc"), "caB", "Abc"), "aBC")

    def test_over_of_a_part_without_rooms(self):
        self.assertEqual(over(hall(), "BAC", "aB"), "aB")
        self.assertEqual(over(hall(), "abC", "aBc"), "aBC")

    def test_turn_behind(self):
        wide = Hall("abc")
        # a goes over into b by the first, b into C by the second.
        self.assertEqual(turn_behind(wide, "bac", "aCb"), "Cab")
        self.assertEqual(turn_behind(wide, "aCb", "bac"), "bCa")
        self.assertEqual(turn_behind(hall(), "BAC", "BAc"), "abC")

    def test_back_turn(self):
        self.assertEqual(back_turn(Hall("abc"), "bcA"), "Cab")
        self.assertEqual(back_turn(hall(), "BAc"), "BAc")
        self.assertEqual(back_turn(hall(), "abc"), "abc")

    def test_round_of(self):
        self.assertEqual(round_of(hall(), "abc"), 1)
        self.assertEqual(round_of(hall(), "BAc"), 2)
        self.assertEqual(round_of(Hall("abc"), "bca"), 3)
        self.assertEqual(round_of(Hall("abc"), "bcA"), 6)
        self.assertEqual(round_of(Hall("z"), "Z"), 2)

    def test_by_name(self):
        self.assertIs(is_turn(turn="BAc", hall=hall()), True)
        self.assertEqual(still_turn(hall=hall()), "abc")
        self.assertEqual(turned(room="abc", turn="BAC", hall=hall()), "ABC")
        self.assertEqual(over(part="a", turn="BAC", hall=hall()), "B")
        self.assertEqual(turn_behind(two="aCb", one="bac", hall=Hall("abc")), "Cab")
        self.assertEqual(back_turn(turn="bcA", hall=Hall("abc")), "Cab")
        self.assertEqual(round_of(turn="bcA", hall=Hall("abc")), 6)


class Refused(unittest.TestCase):
    def test_bad_turns(self):
        for turn in NO_TURNS:
            with self.subTest(turn):
                self.assertRaises(BadTurn, turned, hall(), turn, "abc")
                self.assertRaises(BadTurn, over, hall(), turn, "a")
                self.assertRaises(BadTurn, turn_behind, hall(), turn, "abc")
                self.assertRaises(BadTurn, turn_behind, hall(), "abc", turn)
                self.assertRaises(BadTurn, turn_behind, hall(), turn, turn)
                self.assertRaises(BadTurn, back_turn, hall(), turn)
                self.assertRaises(BadTurn, round_of, hall(), turn)

    def test_bad_rooms(self):
        for room in NO_ROOMS:
            with self.subTest(room):
                self.assertRaises(BadRoom, turned, hall(), "BAc", room)

    def test_bad_parts(self):
        for part in NO_PARTS:
            with self.subTest(part):
                self.assertRaises(BadPart, over, hall(), "BAc", part)

    def test_bad_turn_goes_ahead(self):
        for turn in NO_TURNS:
            self.assertRaises(BadTurn, turned, hall(), turn, "aBc")
            self.assertRaises(BadTurn, over, hall(), turn, "ba")

    def test_a_turn_of_another_hall_is_none(self):
        self.assertIs(is_turn(Hall("abc"), "bca"), True)
        self.assertIs(is_turn(Hall("abc", ["aB"]), "bca"), False)
        self.assertIs(is_turn(Hall("abd"), "bca"), False)


class ForcingByWayOfOthers(unittest.TestCase):
    def test_what_counts_is_forcing_not_the_bars(self):
        # The same forces the same in both: the bar aC is told in one of them alone.
        for bars in (["aB", "bC"], ["aB", "bC", "aC"]):
            place = Hall("abc", bars)
            self.assertEqual([turn for turn in plain.side_texts("abc") if is_turn(place, turn)], ["abc", "CBA"])

    def test_turns_that_would_only_add_to_what_is_forced(self):
        # c forces nothing else: as a it would force b, as B it would force A.
        for turn in ("cba", "Cba", "acB", "ACb"):
            self.assertIs(is_turn(hall(), turn), False)


class AgainstTheDocument(unittest.TestCase):
    def test_is_turn_of_many_halls(self):
        for walls, bars in plain.small_halls() + plain.turning_halls():
            if len(walls) < 5:
                place, forced = Hall(walls, bars), plain.forced_map(walls, bars)
                for turn in plain.side_texts(walls):
                    self.assertIs(is_turn(place, turn), plain.keeps(walls, forced, turn))

    def test_turned_over_and_back(self):
        for walls, bars in plain.turning_halls():
            place, rooms = Hall(walls, bars), plain.rooms(walls, bars)
            for turn in plain.turns(walls, bars):
                back = back_turn(place, turn)
                behind = [turned(place, turn, room) for room in rooms]
                self.assertEqual(behind, [plain.stepped(walls, bars, ("turn", turn), room) for room in rooms])
                self.assertEqual(sorted(behind), rooms)
                self.assertEqual([turned(place, back, room) for room in behind], rooms)
                self.check_parts(place, turn)

    def check_parts(self, place, turn):
        walls = place.walls()
        for part in plain.parts(walls):
            wanted = plain.by_letter(plain.into(walls, turn, side) for side in part)
            self.assertEqual(over(place, turn, part), wanted)

    def test_one_then_two(self):
        for walls, bars in plain.turning_halls():
            place, rooms, known = Hall(walls, bars), plain.rooms(walls, bars), plain.turns(walls, bars)
            pairs = list(itertools.product(known, known))
            for one, two in random.Random(8).sample(pairs, min(400, len(pairs))):
                both = turn_behind(place, one, two)
                self.assertIs(is_turn(place, both), True)
                for room in rooms:
                    self.assertEqual(turned(place, both, room), turned(place, two, turned(place, one, room)))

    def test_round(self):
        for walls, bars in plain.turning_halls():
            place, rooms = Hall(walls, bars), plain.rooms(walls, bars)
            for turn in plain.turns(walls, bars):
                now, many = [turned(place, turn, room) for room in rooms], 1
                while now != rooms:
                    now, many = [turned(place, turn, room) for room in now], many + 1
                self.assertEqual(round_of(place, turn), many)


class Wide(unittest.TestCase):
    def test_twelve_walls_without_bars(self):
        place = Hall(TWELVE)
        chance = random.Random(12)
        for _ in range(30):
            turn = "".join(chance.choice((wall, wall.upper())) for wall in chance.sample(TWELVE, 12))
            self.assertIs(is_turn(place, turn), True)
            self.assertEqual(turn_behind(place, turn, back_turn(place, turn)), TWELVE)
            self.assertEqual(turn_behind(place, back_turn(place, turn), turn), TWELVE)
            self.assertEqual(turned(place, turn, TWELVE), plain.by_letter(turn))
            self.assertEqual(turned(place, turn, TWELVE.upper()), plain.by_letter(turn.swapcase()))

    def test_long_rounds(self):
        place = Hall(TWELVE)
        self.assertEqual(round_of(place, TWELVE), 1)
        self.assertEqual(round_of(place, TWELVE.upper()), 2)
        self.assertEqual(round_of(place, "bcdefghijkla"), 12)
        self.assertEqual(round_of(place, "bcdefghijklA"), 24)
        self.assertEqual(round_of(place, "bcaefgdijklh"), 60)
        self.assertEqual(round_of(place, "bcAefgDijklH"), 120)

    def test_twelve_walls_that_are_no_turn(self):
        for turn in (TWELVE + "a", TWELVE[:11], TWELVE[:11] + "a", TWELVE[:11] + "m", TWELVE[:11] + "A", TWELVE + TWELVE):
            self.assertIs(is_turn(Hall(TWELVE), turn), False)

    def test_twelve_walls_in_a_ladder(self):
        place = Hall(TWELVE, [one + two.upper() for one, two in itertools.pairwise(TWELVE)])
        back = TWELVE[::-1].upper()
        self.assertIs(is_turn(place, TWELVE), True)
        self.assertIs(is_turn(place, back), True)
        self.assertIs(is_turn(place, TWELVE[::-1]), False)
        self.assertIs(is_turn(place, TWELVE.upper()), False)
        self.assertEqual(turned(place, back, "ABcdefghijkl"), "ABCDEFGHIJkl")
        self.assertEqual(round_of(place, back), 2)


class Copies(unittest.TestCase):
    def test_the_hall_stays(self):
        place = hall()
        turned(place, "BAc", "abc")
        over(place, "BAc", "aB")
        round_of(place, "BAC")
        self.assertRaises(BadTurn, turned, place, "bac", "abc")
        self.assertRaises(BadRoom, turned, place, "BAc", "aBc")
        self.assertEqual((place, place.rooms()), (hall(), hall().rooms()))
        self.assertEqual(turned(place, "BAc", "abc"), "ABc")


if __name__ == "__main__":
    unittest.main()
