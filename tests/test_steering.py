"""Steering: [13] and the interface of nearcall/steering.py."""

import inspect
import itertools
import random
import unittest

import plain
from nearcall import steering
from nearcall.errors import BadPart, BadRoom, BadTurn, Empty, TooMany
from nearcall.halls import Hall
from nearcall.steering import (MOST_CALLS, barred_by, behind_calls, blind, come_to, from_behind, gather, lean, steer,
                               steer_turning)
from plain import caught, told_again

TWELVE = "abcdefghijkl"
NO_ROOMS = ("", "ab", "aBc", "abcd", "bac", "abd", "abc\n", "a" * 4000)


def hall():
    return Hall("abc", ["aB"])


def samples():
    """Walls, bars and calls of some small halls: no calls, one, some, twelve, and one call many times."""
    chance = random.Random(8)
    halls = [("a", ()), ("bx", ()), ("bx", ("bX",)), *plain.some_halls("abc", 6, 1), *plain.some_halls("cmxz", 4, 2)]
    for walls, bars in halls:
        for many in (0, 1, 2, 3, 3, 4, 5, 12):
            yield walls, bars, plain.some_calls(walls, bars, many, chance)
        yield walls, bars, plain.some_calls(walls, bars, 1, chance) * 12
        yield walls, bars, [""]


def all_asked(calls, room="abc", goal="abc"):
    """Each function over the hall, with these calls and rooms."""
    return {
        "from_behind": lambda: from_behind(hall(), calls, goal),
        "steer": lambda: steer(hall(), calls, room, goal),
        "barred_by": lambda: barred_by(hall(), calls, goal),
        "blind": lambda: blind(hall(), calls, goal),
        "gather": lambda: gather(hall(), calls),
        "lean": lambda: lean(hall(), calls),
        "come_to": lambda: come_to(hall(), calls, room),
        "behind_calls": lambda: behind_calls(hall(), calls, [], room),
        "steer_turning": lambda: steer_turning(hall(), calls, ["BAC"], room, goal),
    }


class Ordinary(unittest.TestCase):
    def test_bound(self):
        self.assertEqual(MOST_CALLS, 12)
        self.assertIs(type(MOST_CALLS), int)

    def test_from_behind(self):
        self.assertEqual(from_behind(hall(), ["a", "C", "AC"], "abc"), ([0], "ab"))
        self.assertEqual(from_behind(hall(), ["a", "C", "Ac"], "abc"), ([0, 2, 1], "abc"))
        self.assertEqual(from_behind(hall(), ["aC", "c"], "abc"), ([1, 0], "abc"))
        self.assertEqual(from_behind(hall(), [], "abc"), ([], ""))
        self.assertEqual(from_behind(hall(), ["A"], "abc"), ([], ""))

    def test_a_pair_of_a_list_and_a_text(self):
        told = from_behind(hall(), ("c",), "abc")
        self.assertEqual([type(thing) for thing in (told, *told)], [tuple, list, str])

    def test_the_least_good_one_is_taken_each_time(self):
        # c is good at first, and then ahead of it all that write c alone besides.
        self.assertEqual(from_behind(hall(), ["C", "c", "C", "B"], "ABc"), ([1, 0, 2, 3], "abc"))
        self.assertEqual(from_behind(hall(), ["b", "", "C"], "Abc"), ([0, 1], "b"))

    def test_written_walls_are_told_rising(self):
        self.assertEqual(from_behind(Hall("abcd"), ["d", "A", "c"], "Abcd"), ([0, 1, 2], "acd"))

    def test_steer(self):
        self.assertIsNone(steer(hall(), ["a"], "ABC", "abc"))
        found = steer(hall(), ["aC", "c"], "ABC", "abc")
        self.assertEqual(behind_calls(hall(), ["aC", "c"], found, "ABC"), "abc")
        self.assertEqual(steer(hall(), [], "abc", "abc"), [])
        self.assertIsNone(steer(hall(), [], "abc", "abC"))

    def test_barred_by(self):
        self.assertEqual(barred_by(hall(), ["a", "C", "AC"], "abc"), [(1, "C"), (2, "C")])
        self.assertEqual(barred_by(hall(), ["B", "bC", "", "a"], "abC"), [])
        self.assertEqual(barred_by(hall(), ["BC", "", "AC"], "abc"), [(0, "A"), (2, "A")])
        # The wall b is written already, so B doesn't bar; and A isn't told, but forced.
        self.assertEqual(barred_by(hall(), ["b", "B"], "abc"), [(1, "A")])

    def test_blind(self):
        self.assertIsNone(blind(hall(), ["a"], "abc"))
        self.assertIsNone(blind(hall(), [], "abc"))
        found = blind(hall(), ["aC", "c"], "abc")
        self.assertEqual({behind_calls(hall(), ["aC", "c"], found, room) for room in hall().rooms()}, {"abc"})

    def test_gather(self):
        self.assertEqual(gather(hall(), ["a", "C", "Ac"]), [0, 1])
        self.assertEqual(gather(hall(), ["", "C", "Bc", "abC"]), [2])
        self.assertIsNone(gather(hall(), ["a", "b"]))
        self.assertIsNone(gather(hall(), []))

    def test_gather_tells_the_fewest_then_the_least(self):
        place = Hall("abcd")
        self.assertEqual(gather(place, ["a", "b", "cd", "ab", "D"]), [2, 3])
        self.assertEqual(gather(place, ["d", "abc", "bcd", "a"]), [0, 1])
        self.assertEqual(gather(Hall(TWELVE), list(TWELVE)), list(range(12)))

    def test_lean(self):
        self.assertEqual(lean(hall(), ["a", "C", "Ac"]), [0, 2])
        self.assertEqual(lean(hall(), ["a", "a", "a"]), [2])
        self.assertEqual(lean(hall(), ["", "c", ""]), [1])
        self.assertEqual(lean(hall(), []), [])

    def test_come_to(self):
        self.assertEqual(come_to(hall(), [], "abc"), ["abc"])
        self.assertEqual(come_to(hall(), ["C"], "abc"), ["abC", "abc"])
        self.assertEqual(come_to(hall(), ["a", "A", "c", "C"], "abc"), ["AbC", "Abc", "abC", "abc"])

    def test_behind_calls(self):
        calls = ["a", "C", "B"]
        self.assertEqual(behind_calls(hall(), calls, [], "Abc"), "Abc")
        self.assertEqual(behind_calls(hall(), calls, [2, 0, 1], "Abc"), "abC")
        self.assertEqual(behind_calls(hall(), calls, (0, 2, 2), "Abc"), "ABc")
        self.assertEqual(behind_calls(hall(), calls, [0, 1] * 200, "Abc"), "abC")

    def test_steer_turning(self):
        self.assertEqual(steer_turning(hall(), [], ["BAC"], "abc", "ABC"), [("turn", 0)])
        self.assertEqual(steer_turning(hall(), ["a"], [], "ABC", "abC"), [("call", 0)])
        self.assertEqual(steer_turning(hall(), [], [], "ABC", "ABC"), [])
        self.assertIsNone(steer_turning(hall(), ["a"], [], "ABC", "abc"))
        self.assertEqual(len(steer_turning(hall(), ["a"], ["BAC"], "AbC", "ABc")), 2)


class AgainstPlainSearch(unittest.TestCase):
    def test_taken_and_barred(self):
        for walls, bars, calls in samples():
            place = Hall(walls, bars)
            texts = [plain.shut_text(walls, bars, part) for part in calls]
            for goal in plain.rooms(walls, bars):
                taken, written, left = self.taken_by_hand(texts, goal)
                self.assertEqual(from_behind(place, calls, goal), (taken, "".join(sorted(written))))
                strays = [(at, [side for side in texts[at] if side.lower() not in written and side not in goal][0])
                          for at in left]
                self.assertEqual(barred_by(place, calls, goal), strays)

    def taken_by_hand(self, texts, goal):
        taken, written, left = [], set(), list(range(len(texts)))
        while True:
            good = [at for at in left
                    if all(side in goal for side in texts[at] if side.lower() not in written)]
            if not good:
                return taken, written, left
            taken.append(good[0])
            left.remove(good[0])
            written |= set(texts[good[0]].lower())

    def test_steer_and_come_to(self):
        for walls, bars, calls in samples():
            place, moves = Hall(walls, bars), plain.leads(walls, bars, calls)
            found = plain.rooms(walls, bars)
            for room in found:
                met = plain.reached(moves, room)
                self.assertEqual(come_to(place, calls, room), sorted(met))
                for goal in found:
                    places = steer(place, calls, room, goal)
                    self.assertEqual(places is not None, goal in met, (walls, bars, calls, room, goal))
                    if places is not None:
                        self.assertIs(type(places), list)
                        self.assertLessEqual(len(places), 400)
                        self.assertEqual(plain.one_behind_another(moves, places, room), goal)

    def test_blind_and_gather(self):
        for walls, bars, calls in samples():
            place, moves = Hall(walls, bars), plain.leads(walls, bars, calls)
            found = plain.rooms(walls, bars)
            done = plain.all_done(moves, found)
            for goal in found:
                places = blind(place, calls, goal)
                self.assertEqual(places is not None, (goal,) * len(found) in done)
                if places is not None:
                    self.assertEqual({plain.one_behind_another(moves, places, room) for room in found}, {goal})
            if len(calls) < 6:
                self.assertEqual(gather(place, calls), self.gathered(moves, found))

    def gathered(self, moves, found):
        """By all that rows of each choice of calls do with all rooms."""
        for places in plain.subsets(range(len(moves))):
            if any(len(set(behind)) == 1 for behind in plain.all_done([moves[at] for at in places], found)):
                return list(places)
        return None

    def test_gather_of_twelve_calls(self):
        for walls, bars, calls in samples():
            moves, found = plain.leads(walls, bars, calls), plain.rooms(walls, bars)
            wanted = None
            for places in plain.subsets(range(len(calls))):
                if len({plain.one_behind_another(moves, places, room) for room in found}) == 1:
                    wanted = list(places)
                    break
            self.assertEqual(gather(Hall(walls, bars), calls), wanted)

    def test_lean(self):
        for walls, bars, calls in samples():
            texts = [plain.shut_text(walls, bars, part).lower() for part in calls]
            wanted = [at for at, text in enumerate(texts) if set(text) - set("".join(texts[at + 1:]))]
            self.assertEqual(lean(Hall(walls, bars), calls), wanted)

    def test_behind_calls(self):
        chance = random.Random(5)
        for walls, bars, calls in samples():
            moves = plain.leads(walls, bars, calls)
            for room in plain.rooms(walls, bars):
                places = [chance.randrange(len(calls)) for _ in range(6)] if calls else []
                self.assertEqual(behind_calls(Hall(walls, bars), calls, places, room),
                                 plain.one_behind_another(moves, places, room))

    def test_steer_turning(self):
        chance = random.Random(3)
        for walls, bars in plain.turning_halls():
            place, found, known = Hall(walls, bars), plain.rooms(walls, bars), plain.turns(walls, bars)
            for many, turning in ((0, 1), (1, 1), (2, 1), (2, 0), (1, 2), (12, 3)):
                calls = plain.some_calls(walls, bars, many, chance)
                turns = [chance.choice(known) for _ in range(turning)]
                steps = {("call", at): ("call", part) for at, part in enumerate(calls)}
                steps.update({("turn", at): ("turn", turn) for at, turn in enumerate(turns)})
                moves = {name: {room: plain.stepped(walls, bars, step, room) for room in found}
                         for name, step in steps.items()}
                for room in found:
                    self.check_turning(place, calls, turns, moves, room)

    def check_turning(self, place, calls, turns, moves, room):
        met = plain.reached(list(moves.values()), room)
        for goal in place.rooms():
            names = steer_turning(place, calls, turns, room, goal)
            self.assertEqual(names is not None, goal in met)
            if names is not None:
                self.assertIs(type(names), list)
                self.assertEqual(plain.one_behind_another(moves, names, room), goal)


class Wide(unittest.TestCase):
    def test_twelve_walls(self):
        place = Hall(TWELVE)
        # Nobody comes to B: the call aB isn't among them.
        calls = [one + two.upper() for one, two in itertools.pairwise(TWELVE[1:])] + ["A"]
        found = come_to(place, calls, TWELVE, most=4096)
        self.assertIn(TWELVE, found)
        self.assertLess(len(found), 4096)
        for goal in place.rooms()[::17]:
            places = steer(place, calls, TWELVE, goal)
            self.assertEqual(places is not None, goal in found)
            if places is not None:
                self.assertEqual(behind_calls(place, calls, places, TWELVE), goal)

    def test_turning_about_twelve_walls(self):
        place = Hall(TWELVE)
        self.assertIsNone(steer_turning(place, ["aB"], ["bcdefghijkla"], TWELVE, TWELVE.upper()))
        names = steer_turning(place, ["A"], ["bcdefghijkla"], TWELVE, TWELVE.upper())
        self.assertEqual(names.count(("call", 0)), 12)

    def test_many_turns_handed_in(self):
        place = Hall("abcdef")
        turns = ["".join(order) for order in itertools.permutations("abcde")]
        turns = [turn + "f" for turn in turns] * 3
        self.assertIsNone(steer_turning(place, [], turns, "Abcdef", "abcdeF"))
        self.assertIsNotNone(steer_turning(place, [], turns, "Abcdef", "abcdEf"))


class Refused(unittest.TestCase):
    def test_thirteen_calls(self):
        for calls in (["a"] * 13, ["ba"] * 13, ["aB"] + ["a"] * 12, ["a"] * 400):
            for name, ask in all_asked(calls, "?", "?").items():
                with self.subTest(name):
                    self.assertEqual(caught(TooMany, ask).most, 12)

    def test_twelve_calls_are_let_by(self):
        for name, ask in all_asked(["a"] * 12).items():
            with self.subTest(name):
                ask()

    def test_bad_parts(self):
        for calls in (["ba"], ["a", "d"], ["a", "c", "aA"], ["d", "aB"]):
            for name, ask in all_asked(calls, "?", "?").items():
                with self.subTest(name):
                    self.assertRaises(BadPart, ask)

    def test_empty_parts(self):
        for calls in (["aB"], ["a", "aBc"], ["aB", "d"]):
            for name, ask in all_asked(calls, "?", "?").items():
                with self.subTest(name):
                    self.assertEqual(caught(Empty, ask).wall, "a")

    def test_bad_rooms(self):
        for bad in NO_ROOMS:
            for name, ask in all_asked(["a"], bad, "abc").items():
                if name in ("steer", "come_to", "behind_calls", "steer_turning"):
                    self.assertRaises(BadRoom, ask)
            for name, ask in all_asked(["a"], "abc", bad).items():
                if name in ("from_behind", "steer", "barred_by", "blind", "steer_turning"):
                    self.assertRaises(BadRoom, ask)

    def test_come_to_with_too_many_rooms(self):
        many = len(hall().rooms())
        self.assertEqual(many, 6)
        for most in (0, 1, many - 1):
            self.assertEqual(caught(TooMany, come_to, hall(), ["a"], "abc", most=most).most, most)
        for most in (many, many + 1, 10 ** 39):
            self.assertEqual(come_to(hall(), ["C"], "abc", most=most), ["abC", "abc"])

    def test_come_to_by_default(self):
        self.assertEqual(come_to(Hall("abcdefgh"), [], "abcdefgh"), ["abcdefgh"])
        self.assertEqual(caught(TooMany, come_to, Hall("abcdefghi"), [], "abcdefghi").most, 256)
        self.assertEqual(come_to(Hall("abcdefghi", ["ab"]), ["A"], "Abcdefghi", most=384), ["Abcdefghi"])
        self.assertEqual(caught(TooMany, come_to, Hall("abcdefghi", ["ab"]), [], "Abcdefghi", most=383).most, 383)

    def test_bad_room_goes_ahead_of_too_many_rooms(self):
        self.assertRaises(BadRoom, come_to, hall(), ["a"], "aBc", most=0)

    def test_bad_turns(self):
        for turns in (["abc", "acb"], ["Abc"], [""], ["abcd"], ["BAC", "aab"]):
            self.assertRaises(BadTurn, steer_turning, hall(), ["a"], turns, "?", "?")
        self.assertRaises(BadPart, steer_turning, hall(), ["ba"], ["acb"], "abc", "abc")
        self.assertRaises(Empty, steer_turning, hall(), ["aB"], ["acb"], "abc", "abc")

    def test_too_many_turns(self):
        place = Hall(TWELVE)
        # Rounds of 6, 8 and 10, apart: 480 turns, though each pair of them makes at most 80.
        three = ["bcAdefghijkl", "abcefgDhijkl", "abcdefgijklH"]
        self.assertEqual(caught(TooMany, steer_turning, place, [], three, TWELVE, TWELVE).most, 400)
        self.assertRaises(BadRoom, steer_turning, place, [], three, TWELVE, "?")
        self.assertRaises(BadRoom, steer_turning, place, [], three, "?", TWELVE)
        for two in itertools.combinations(three, 2):
            self.assertEqual(steer_turning(place, [], two, TWELVE, TWELVE), [])

    def test_just_four_hundred_turns(self):
        # Twenty turns of the first five walls by twenty of the other five.
        place = Hall("abcdefghij")
        turns = ["bcdeafghij", "acebdfghij", "abcdeghijf", "abcdefhjgi"]
        self.assertEqual(steer_turning(place, [], turns, "abcdefghij", "abcdefghij"), [])
        self.assertIsNone(steer_turning(place, [], turns, "abcdefghij", "Abcdefghij"))
        self.assertEqual(caught(TooMany, steer_turning, place, [], turns + ["ABCDEfghij"], "abcdefghij",
                                "abcdefghij").most, 400)

    def test_too_many_turns_of_a_small_hall(self):
        place = Hall("abcde")
        self.assertEqual(caught(TooMany, steer_turning, place, [], ["bcdea", "bacde", "Abcde"], "abcde", "abcde").most,
                         400)
        self.assertEqual(steer_turning(Hall("abcd"), [], ["bcda", "bacd", "Abcd"], "abcd", "abcd"), [])


class HandedInAndTold(unittest.TestCase):
    def test_told_is_the_askers_own(self):
        for calls in ([], ["a"], ["aC", "c", "Ab", ""]):
            for name, ask in all_asked(calls, "ABC").items():
                with self.subTest(name):
                    told_again(ask)

    def test_handed_in_is_not_changed(self):
        calls, turns, places = ["aC", "c", "Ab", ""], ["BAC", "abC"], [0, 3, 1]
        for ask in all_asked(calls).values():
            ask()
        steer_turning(hall(), calls, turns, "abc", "ABC")
        behind_calls(hall(), calls, places, "abc")
        self.assertEqual((calls, turns, places), (["aC", "c", "Ab", ""], ["BAC", "abC"], [0, 3, 1]))

    def test_tuples_in_place_of_lists(self):
        calls = ["aC", "c", "Ab", ""]
        for (name, ask), other in zip(all_asked(calls, "ABC").items(), all_asked(tuple(calls), "ABC").values()):
            with self.subTest(name):
                self.assertEqual(ask(), other())
        self.assertEqual(steer_turning(hall(), (), ("BAC",), "abc", "ABC"), [("turn", 0)])

    def test_by_name(self):
        self.assertEqual(from_behind(goal="abc", calls=["c"], hall=hall()), ([0], "c"))
        self.assertEqual(steer(goal="abc", room="abC", calls=["c"], hall=hall()), [0])
        self.assertEqual(barred_by(goal="abC", calls=["c"], hall=hall()), [(0, "c")])
        self.assertIsNone(blind(goal="abC", calls=["c"], hall=hall()))
        self.assertIsNone(gather(calls=["c"], hall=hall()))
        self.assertEqual(lean(calls=["c"], hall=hall()), [0])
        self.assertEqual(come_to(most=6, room="abC", calls=["c"], hall=hall()), ["abC", "abc"])
        self.assertEqual(behind_calls(room="abC", places=[0], calls=["c"], hall=hall()), "abc")
        self.assertEqual(steer_turning(goal="abC", room="abC", turns=[], calls=[], hall=hall()), [])

    def test_behind_a_star(self):
        self.assertRaises(TypeError, come_to, hall(), [], "abc", 256)
        self.assertEqual(inspect.signature(steering.come_to).parameters["most"].default, 256)


if __name__ == "__main__":
    unittest.main()
