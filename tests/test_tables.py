"""Tables: [9] and the interface of nearcall/tables.py."""

import itertools
import random
import unittest

import plain
from nearcall.errors import BadCount, BadPart, BadRoom, BadTable, BadTurn, Empty, OtherHall
from nearcall.halls import Hall
from nearcall.tables import Table, of_call, of_turn, parting, still
from plain import caught

TWELVE = "abcdefghijkl"
LADDER = [one + two.upper() for one, two in itertools.pairwise(TWELVE)]
NO_ROOMS = ("", "ab", "aBc", "abcd", "bac", "abd", "abc\n", "a" * 4000)
GREAT_NUMBERS = (10 ** 29, 10 ** 30, 10 ** 30 + 1, 123456789012345678901234567890, 10 ** 39 + 7, 10 ** 40 - 1, 2 ** 130)


def hall():
    return Hall("abc", ["aB"])


def good_entries(walls, bars):
    """All entries that lead each room to a room."""
    found = plain.rooms(walls, bars)
    every = itertools.product(*[plain.entry_choices(walls, wall) for wall in walls])
    return [entries for entries in every if all(plain.led(walls, entries, room) in found for room in found)]


def small_halls():
    return [pair for pair in plain.small_halls() if len(pair[0]) < 4]


class Refused(unittest.TestCase):
    def test_another_count(self):
        for entries in ((), ("a",), ("a", "b"), ("a", "b", "c", "a"), ["a"] * 400, ("?", "b"), ("", "", "", "")):
            with self.subTest(entries):
                self.assertEqual(caught(BadTable, Table, hall(), entries).at, -1)

    def test_entries_that_are_none(self):
        for entry in ("", "=", "=b", "=B", "=c", "d", "D", "ab", "aA", "==a", "=a=", "=aa", "a ", " a", "a\n", "\n", "-a",
                      "1", "a" * 4000):
            with self.subTest(entry):
                self.assertEqual(caught(BadTable, Table, hall(), (entry, "b", "c")).at, 0)

    def test_the_first_that_is_none(self):
        self.assertEqual(caught(BadTable, Table, hall(), ("a", "=a", "c")).at, 1)
        self.assertEqual(caught(BadTable, Table, hall(), ("a", "b", "=b")).at, 2)
        self.assertEqual(caught(BadTable, Table, hall(), ("a", "?", "?")).at, 1)

    def test_some_room_is_led_to_none(self):
        for entries in (("=a", "=B", "c"), ("=a", "b", "c"), ("a", "=B", "c"), ("c", "b", "a"), ("A", "B", "c"),
                        ("a", "A", "c"), ("c", "C", "c"), ("b", "a", "c"), ("B", "b", "c")):
            with self.subTest(entries):
                self.assertEqual(caught(BadTable, Table, hall(), entries).at, -1)

    def test_forced_by_way_of_others(self):
        # No bar says so, but a forces c: who stood on a stands on b behind where b is as c was.
        place = Hall("abc", ["aB", "bC"])
        self.assertEqual(Table(place, ("a", "c", "=c")).led("Abc"), "Abc")
        self.assertEqual(Table(place, ("a", "c", "c")).led("ABc"), "Abc")
        self.assertEqual(caught(BadTable, Table, place, ("b", "a", "c")).at, -1)

    def test_order(self):
        # The count, then an entry that is none, then where it leads.
        self.assertEqual(caught(BadTable, Table, hall(), ("=a", "=B", "?")).at, 2)
        self.assertEqual(caught(BadTable, Table, hall(), ("=a", "=B", "?", "c")).at, -1)

    def test_all_entries_of_many_halls(self):
        for walls, bars in small_halls():
            place, good = Hall(walls, bars), set(good_entries(walls, bars))
            for entries in itertools.product(*[plain.entry_choices(walls, wall) for wall in walls]):
                if entries in good:
                    self.assertEqual(Table(place, entries).entries(), entries)
                else:
                    self.assertEqual(caught(BadTable, Table, place, entries).at, -1)


class Ordinary(unittest.TestCase):
    def table(self):
        return Table(hall(), ("A", "=b", "C"))

    def test_hall_and_entries(self):
        self.assertEqual(self.table().hall(), hall())
        self.assertEqual(self.table().entries(), ("A", "=b", "C"))
        self.assertIs(type(self.table().entries()), tuple)

    def test_entries_as_a_list(self):
        table = Table(hall(), ["A", "=b", "C"])
        self.assertEqual(table, self.table())
        self.assertIs(type(table.entries()), tuple)

    def test_led(self):
        self.assertEqual(self.table().led("abc"), "AbC")
        self.assertEqual(self.table().led("ABC"), "abc")
        self.assertEqual(Table(Hall("abc"), ("b", "C", "=C")).led("aBc"), "ABC")
        self.assertEqual(Table(Hall("abc"), ("b", "C", "=C")).led("Abc"), "aBC")

    def test_bad_rooms(self):
        for room in NO_ROOMS:
            with self.subTest(room):
                self.assertRaises(BadRoom, self.table().led, room)
                self.assertRaises(BadRoom, still(hall()).led, room)

    def test_then(self):
        place = Hall("abc")
        one, two = Table(place, ("b", "=B", "A")), Table(place, ("C", "B", "=c"))
        # Behind: a as C was (so as a), b as B was (all of them), c as told.
        self.assertEqual(one.then(two).entries(), ("a", "=b", "=c"))
        # Behind: a as b was (so as B), b as told, c as A was (so as c).
        self.assertEqual(two.then(one).entries(), ("B", "=B", "c"))

    def test_then_of_walls_that_stand_fixed(self):
        place = Hall("abc")
        ahead = Table(place, ("=A", "=b", "c"))
        self.assertEqual(ahead.then(Table(place, ("b", "B", "A"))).entries(), ("=a", "=B", "=c"))
        self.assertEqual(ahead.then(Table(place, ("B", "a", "a"))).entries(), ("=A", "=B", "=C"))

    def test_then_leaves_both(self):
        place = Hall("abc")
        one, two = Table(place, ("b", "=B", "A")), Table(place, ("C", "B", "=c"))
        one.then(two)
        one.times(5)
        self.assertEqual((one.entries(), two.entries()), (("b", "=B", "A"), ("C", "B", "=c")))

    def test_other_halls(self):
        for place in (Hall("abc"), Hall("abc", ["aB", "aC"]), Hall("abd", ["aB"]), Hall("ab", ["aB"]), Hall("abcd", ["aB"])):
            self.assertRaises(OtherHall, still(hall()).then, still(place))
            self.assertRaises(OtherHall, still(place).then, still(hall()))
            self.assertRaises(OtherHall, parting, still(hall()), still(place))

    def test_the_same_hall_made_anew_is_no_other(self):
        one, two = still(Hall("abc", ["aB", "bC"])), still(Hall("abc", ("bC", "aB")))
        self.assertEqual(one.then(two), one)
        self.assertIsNone(parting(one, two))

    def test_times(self):
        table = of_turn(Hall("abc"), "bcA")
        self.assertEqual(table.times(0), still(Hall("abc")))
        self.assertEqual(table.times(1), table)
        self.assertEqual(table.times(2), table.then(table))
        self.assertEqual(table.times(6), still(Hall("abc")))
        self.assertEqual(table.times(6 * 10 ** 38 + 1), table)

    def test_times_below_nought(self):
        for many in (-1, -2, -10 ** 40):
            self.assertRaises(BadCount, self.table().times, many)

    def test_fixed(self):
        self.assertEqual(self.table().fixed(), "b")
        self.assertEqual(still(hall()).fixed(), "")
        self.assertEqual(Table(hall(), ("=A", "=b", "=C")).fixed(), "AbC")
        self.assertEqual(Table(hall(), ("=A", "b", "=c")).fixed(), "Ac")

    def test_equal(self):
        self.assertTrue(self.table() == Table(Hall("abc", ("aB",)), ["A", "=b", "C"]))
        self.assertFalse(self.table() != Table(Hall("abc", ("aB",)), ["A", "=b", "C"]))
        for thing in (Table(hall(), ("A", "=b", "c")), Table(Hall("abc"), ("A", "=b", "C")), still(hall())):
            self.assertFalse(self.table() == thing)
            self.assertTrue(self.table() != thing)

    def test_equal_to_nothing_else(self):
        for thing in (("A", "=b", "C"), ["A", "=b", "C"], "A =b C", repr(self.table()), 1, None, True, hall()):
            self.assertIs(self.table() == thing, False)
            self.assertIs(self.table() != thing, True)

    def test_len(self):
        self.assertEqual(len(still(hall())), 0)
        self.assertEqual(len(self.table()), 1)
        self.assertEqual(len(Table(hall(), ("=A", "=b", "=C"))), 3)

    def test_str_and_repr(self):
        self.assertEqual(str(self.table()), "A =b C")
        self.assertEqual(repr(self.table()), "Table(3 walls, 1 fixed)")
        self.assertEqual(str(still(Hall("z"))), "z")
        self.assertEqual(repr(still(Hall("z"))), "Table(1 walls, 0 fixed)")

    def test_methods_stand_in_the_class_itself(self):
        for name in ("hall", "entries", "led", "then", "times", "fixed",
                     "__init__", "__eq__", "__len__", "__str__", "__repr__"):
            self.assertIn(name, vars(Table))

    def test_by_name(self):
        table = Table(entries=("A", "=b", "C"), hall=hall())
        self.assertEqual(table.led(room="ABC"), "abc")
        self.assertEqual(table.then(later=table), table.times(many=2))
        self.assertEqual(still(hall=hall()).entries(), ("a", "b", "c"))
        self.assertEqual(of_call(part="a", hall=hall()).fixed(), "ab")
        self.assertEqual(of_turn(turn="BAC", hall=hall()).entries(), ("B", "A", "C"))
        self.assertEqual(parting(two=still(hall()), one=of_call(hall(), "c")), "ABC")


class Made(unittest.TestCase):
    def test_still(self):
        self.assertEqual(still(hall()).entries(), ("a", "b", "c"))
        self.assertEqual(still(Hall("qz")).entries(), ("q", "z"))

    def test_of_call(self):
        self.assertEqual(of_call(hall(), "").entries(), ("a", "b", "c"))
        self.assertEqual(of_call(hall(), "a").entries(), ("=a", "=b", "c"))
        self.assertEqual(of_call(hall(), "B").entries(), ("=A", "=B", "c"))
        self.assertEqual(of_call(hall(), "bC").entries(), ("a", "=b", "=C"))

    def test_of_turn(self):
        # a goes over into b, b into c, c into A: who stood on C stands on a behind.
        self.assertEqual(of_turn(Hall("abc"), "bcA").entries(), ("C", "a", "b"))
        self.assertEqual(of_turn(hall(), "abC").entries(), ("a", "b", "C"))

    def test_refused_calls(self):
        for part in ("d", "ba", "aA", "aa", " ", "a\n", "aBd"):
            self.assertRaises(BadPart, of_call, hall(), part)
        self.assertEqual(caught(Empty, of_call, hall(), "aB").wall, "a")
        self.assertEqual(caught(Empty, of_call, Hall("abcd", ["bC", "cD"]), "abD").wall, "b")

    def test_refused_turns(self):
        for turn in ("", "ab", "abcc", "aab", "bac", "ABC", "abd", "a" * 4000):
            self.assertRaises(BadTurn, of_turn, hall(), turn)

    def test_of_calls_and_turns_against_the_document(self):
        for walls, bars in plain.small_halls() + plain.turning_halls():
            if len(walls) < 5:
                place, rooms = Hall(walls, bars), plain.rooms(walls, bars)
                for step in plain.some_steps(walls, bars, 25, random.Random(3)):
                    table = of_call(place, step[1]) if step[0] == "call" else of_turn(place, step[1])
                    leads = {room: plain.stepped(walls, bars, step, room) for room in rooms}
                    self.assertEqual(table.entries(), plain.entries_of(walls, leads))


class AgainstTheDocument(unittest.TestCase):
    def test_led(self):
        for walls, bars in small_halls():
            place = Hall(walls, bars)
            for entries in good_entries(walls, bars):
                table = Table(place, entries)
                for room in plain.rooms(walls, bars):
                    self.assertEqual(table.led(room), plain.led(walls, entries, room))

    def test_two_tables_lead_alike_just_where_they_are_the_same(self):
        for walls, bars in small_halls():
            rooms = plain.rooms(walls, bars)
            good = good_entries(walls, bars)
            self.assertEqual(len({tuple(plain.led(walls, one, room) for room in rooms) for one in good}), len(good))

    def test_then_parting_and_times(self):
        chance = random.Random(9)
        for walls, bars in small_halls():
            place, good = Hall(walls, bars), good_entries(walls, bars)
            for _ in range(20):
                one, two = Table(place, chance.choice(good)), Table(place, chance.choice(good))
                self.check_then(one, two)
                self.check_parting(one, two)
                self.check_times(one)

    def check_then(self, one, two):
        leads = {room: two.led(one.led(room)) for room in one.hall().rooms()}
        self.assertEqual(one.then(two).entries(), plain.entries_of(one.hall().walls(), leads))
        self.assertEqual(one.then(two).hall(), one.hall())

    def check_parting(self, one, two):
        unlike = [room for room in one.hall().rooms() if one.led(room) != two.led(room)]
        self.assertEqual(parting(one, two), unlike[0] if unlike else None)
        self.assertEqual(unlike == [], one == two)
        self.assertIsNone(parting(one, one))

    def check_times(self, one):
        powers = [still(one.hall())]
        while powers[-1].then(one) not in powers:
            powers.append(powers[-1].then(one))
        begin = powers.index(powers[-1].then(one))
        for many in (*range(2 * len(powers)), *GREAT_NUMBERS):
            at = many if many < begin else begin + (many - begin) % (len(powers) - begin)
            self.assertEqual(one.times(many), powers[at])


class Partings(unittest.TestCase):
    def test_parting(self):
        place = Hall("abc")
        self.assertEqual(parting(still(place), of_call(place, "a")), "ABC")
        self.assertEqual(parting(still(place), of_call(place, "A")), "aBC")
        self.assertEqual(parting(of_call(place, "ABC"), of_call(place, "abc")), "ABC")
        self.assertEqual(parting(still(place), of_turn(place, "bac")), "AbC")
        self.assertIsNone(parting(still(place), of_turn(place, "bac").times(10 ** 30)))

    def test_where_bars_leave_few_rooms(self):
        place = Hall("abc", ["AB", "BC"])
        self.assertEqual(place.rooms(), ["AbC", "Abc", "aBc", "abC", "abc"])
        self.assertEqual(parting(still(place), of_call(place, "b")), "aBc")


class Wide(unittest.TestCase):
    def test_twelve_walls_without_bars(self):
        place = Hall(TWELVE)
        turn = of_turn(place, "bcdefghijklA")
        self.assertEqual(turn.entries(), ("L", *TWELVE[:11]))
        self.assertEqual(turn.times(24 * 10 ** 38), still(place))
        self.assertEqual(parting(turn.times(12), still(place)), TWELVE.upper())
        self.assertEqual(parting(of_call(place, "L"), still(place)), TWELVE[:11].upper() + "l")
        self.assertEqual(repr(of_call(place, TWELVE)), "Table(12 walls, 12 fixed)")

    def test_twelve_walls_in_a_ladder(self):
        place = Hall(TWELVE, LADDER)
        self.assertEqual(of_call(place, "a").fixed(), TWELVE)
        self.assertEqual(str(of_call(place, "k")), "a b c d e f g h i j =k =l")
        self.assertEqual(of_turn(place, TWELVE[::-1].upper()).entries(), tuple(TWELVE[::-1].upper()))
        self.assertEqual(Table(place, ("a",) * 12).led("A" + TWELVE[1:]), TWELVE.upper())
        self.assertEqual(caught(BadTable, Table, place, tuple("bacdefghijkl")).at, -1)

    def test_a_shift_that_fills_up(self):
        place = Hall(TWELVE)
        shift = Table(place, ("=a", *TWELVE[:11]))
        self.assertEqual(shift.times(11).fixed(), TWELVE[:11])
        for many in (12, 13, 10 ** 30, 10 ** 40 - 1):
            self.assertEqual(shift.times(many).fixed(), TWELVE)


class Copies(unittest.TestCase):
    def test_what_is_handed_in_is_kept_as_a_copy(self):
        entries = ["a", "=b", "c"]
        table = Table(hall(), entries)
        self.assertEqual(entries, ["a", "=b", "c"])
        entries[0] = "=A"
        entries.append("d")
        self.assertEqual(table.entries(), ("a", "=b", "c"))
        self.assertEqual(table.led("ABC"), "AbC")

    def test_what_is_refused_changes_nothing(self):
        table = Table(hall(), ("a", "=b", "c"))
        self.assertRaises(BadRoom, table.led, "aBc")
        self.assertRaises(BadCount, table.times, -1)
        self.assertRaises(OtherHall, table.then, still(Hall("abc")))
        self.assertEqual(table, Table(hall(), ("a", "=b", "c")))

    def test_asked_again_the_same_is_told(self):
        table = of_call(hall(), "a")
        self.assertEqual([table.led("ABC"), table.times(3), table.fixed()], [table.led("ABC"), table.times(3), "ab"])


if __name__ == "__main__":
    unittest.main()
