"""Calls that may be lost: [13], [15] and the interface of nearcall/lost.py."""

import random
import unittest

import plain
from nearcall.errors import BadCount, BadPart, BadRoom, Empty, TooMany
from nearcall.halls import Hall
from nearcall.lost import MOST_SENT, ends_within, fewest_lost, hardened, stories, surely_there, told_of
from plain import caught, told_again

TWELVE = "abcdefghijkl"
GREAT = 10 ** 39


def hall():
    return Hall("abc", ["aB"])


def samples():
    """Walls, bars and calls of some small halls, with up to seven calls."""
    chance = random.Random(15)
    halls = [("a", ()), ("bx", ("bX",)), *plain.some_halls("abc", 5, 31), *plain.some_halls("cmxz", 3, 32)]
    for walls, bars in halls:
        for many in (0, 1, 2, 3, 4, 5, 7):
            yield walls, bars, plain.some_calls(walls, bars, many, chance)


def all_asked(calls, room="abc", goal="abc", most=1):
    return {
        "fewest_lost": lambda: fewest_lost(hall(), calls, room, goal),
        "told_of": lambda: told_of(hall(), calls, room, goal),
        "stories": lambda: stories(hall(), calls, room, goal),
        "ends_within": lambda: ends_within(hall(), calls, room, most=most),
        "surely_there": lambda: surely_there(hall(), calls, room, goal, most=most),
    }


class Ordinary(unittest.TestCase):
    def test_bound(self):
        self.assertEqual(MOST_SENT, 24)
        self.assertIs(type(MOST_SENT), int)

    def test_fewest_lost(self):
        self.assertEqual(fewest_lost(hall(), ["c", "C"], "abC", "abc"), [1])
        self.assertEqual(fewest_lost(hall(), ["c", "C"], "abC", "abC"), [])
        self.assertEqual(fewest_lost(hall(), ["C", "c", "C", "C"], "abc", "abc"), [2, 3])
        self.assertIsNone(fewest_lost(hall(), ["c", "C"], "Abc", "abc"))
        self.assertEqual(fewest_lost(hall(), [], "abc", "abc"), [])
        self.assertIsNone(fewest_lost(hall(), [], "abc", "Abc"))

    def test_told_of(self):
        self.assertEqual(told_of(hall(), ["c", "C"], "abC", "abc"), ["heard", "lost"])
        self.assertEqual(told_of(hall(), ["c", "c"], "abC", "abc"), ["either", "either"])
        self.assertEqual(told_of(hall(), ["a", "c"], "ABc", "ABc"), ["lost", "either"])
        self.assertEqual(told_of(hall(), [], "abc", "abc"), [])
        self.assertIsNone(told_of(hall(), [], "abc", "Abc"))
        self.assertIsNone(told_of(hall(), ["c"], "abc", "Abc"))

    def test_stories(self):
        self.assertEqual(stories(hall(), ["c", "C"], "abC", "abc"), 1)
        self.assertEqual(stories(hall(), ["c", "c"], "abC", "abc"), 3)
        # What isn't heard is another story though it would change nothing.
        self.assertEqual(stories(hall(), ["", "c"], "abc", "abc"), 4)
        self.assertEqual(stories(hall(), ["c"], "abc", "Abc"), 0)
        self.assertEqual(stories(hall(), [], "abc", "abc"), 1)

    def test_ends_within(self):
        self.assertEqual(ends_within(hall(), ["c", "C"], "abc", most=0), ["abC"])
        self.assertEqual(ends_within(hall(), ["c", "C"], "abc", most=1), ["abC", "abc"])
        self.assertEqual(ends_within(hall(), ["a", "C"], "ABc", most=1), ["ABC", "abC", "abc"])
        self.assertEqual(ends_within(hall(), ["a", "C"], "ABc", most=GREAT), ["ABC", "ABc", "abC", "abc"])
        self.assertEqual(ends_within(hall(), [], "ABc", most=0), ["ABc"])

    def test_surely_there(self):
        self.assertIs(surely_there(hall(), ["c", "c"], "abC", "abc", most=1), True)
        self.assertIs(surely_there(hall(), ["c", "c"], "abC", "abc", most=2), False)
        self.assertIs(surely_there(hall(), ["c"], "abC", "abC", most=0), False)
        self.assertIs(surely_there(hall(), ["c"], "abc", "abc", most=GREAT), True)
        self.assertIs(surely_there(hall(), [], "abc", "abc", most=0), True)
        self.assertIs(surely_there(hall(), [], "abc", "abC", most=0), False)

    def test_hardened(self):
        self.assertEqual(hardened(["a", "c"], 1), ["a", "a", "c", "c"])
        self.assertEqual(hardened(["a", "c", "a"], 0), ["a", "c", "a"])
        self.assertEqual(hardened(("C",), 2), ["C", "C", "C"])

    def test_hardened_calls_are_surely_there(self):
        chance = random.Random(2)
        for walls, bars in plain.some_halls("abcd", 6, 33):
            place = Hall(walls, bars)
            calls = plain.some_calls(walls, bars, 4, chance)
            for room in place.rooms():
                (goal,) = ends_within(place, calls, room, most=0)
                for many in (0, 1, 2, 5):
                    self.assertIs(surely_there(place, hardened(calls, many), room, goal, most=many), True)


class AgainstAllStories(unittest.TestCase):
    def test_stories_told_of_and_fewest_lost(self):
        for walls, bars, calls in samples():
            place, moves = Hall(walls, bars), plain.leads(walls, bars, calls)
            for room in place.rooms():
                for goal in place.rooms():
                    self.check_stories(place, calls, room, goal, plain.all_stories(moves, room, goal))

    def check_stories(self, place, calls, room, goal, every):
        self.assertEqual(stories(place, calls, room, goal), len(every))
        if not every:
            self.assertIsNone(fewest_lost(place, calls, room, goal))
            self.assertIsNone(told_of(place, calls, room, goal))
            return
        least = min(every, key=len)
        self.assertTrue(all(set(least) <= set(story) for story in every))
        self.assertEqual(fewest_lost(place, calls, room, goal), sorted(least))
        wanted = []
        for at in range(len(calls)):
            lost = {at in story for story in every}
            wanted.append("either" if len(lost) == 2 else "lost" if lost == {True} else "heard")
        self.assertEqual(told_of(place, calls, room, goal), wanted)

    def test_ends_within_and_surely_there(self):
        for walls, bars, calls in samples():
            place, moves = Hall(walls, bars), plain.leads(walls, bars, calls)
            for room in place.rooms():
                for most in (0, 1, 2, len(calls), len(calls) + 1):
                    ends = sorted({plain.one_behind_another(moves, [at for at in range(len(calls)) if at not in lost], room)
                                   for lost in plain.subsets(range(len(calls))) if len(lost) <= most})
                    self.assertEqual(ends_within(place, calls, room, most=most), ends)
                    for goal in place.rooms():
                        self.assertIs(surely_there(place, calls, room, goal, most=most), ends == [goal])


class TwentyFourCalls(unittest.TestCase):
    def test_letters(self):
        place = Hall(TWELVE)
        calls = list(TWELVE.upper()) + list(TWELVE)
        self.assertEqual(stories(place, calls, TWELVE, TWELVE), 3 ** 12)
        self.assertEqual(stories(place, calls, TWELVE, TWELVE.upper()), 1)
        self.assertEqual(fewest_lost(place, calls, TWELVE, TWELVE.upper()), list(range(12, 24)))
        self.assertEqual(told_of(place, calls, TWELVE, TWELVE.upper()), ["heard"] * 12 + ["lost"] * 12)
        self.assertEqual(ends_within(place, calls, TWELVE, most=0), [TWELVE])
        self.assertEqual(len(ends_within(place, calls, TWELVE, most=1)), 13)
        self.assertEqual(len(ends_within(place, calls, TWELVE, most=24)), 4096)
        self.assertIs(surely_there(place, calls, TWELVE, TWELVE, most=1), False)

    def test_one_call_again_and_again(self):
        calls = ["c"] * 24
        self.assertEqual(stories(hall(), calls, "abC", "abc"), 2 ** 24 - 1)
        self.assertEqual(stories(hall(), calls, "abc", "abc"), 2 ** 24)
        self.assertIs(surely_there(hall(), calls, "abC", "abc", most=23), True)
        self.assertIs(surely_there(hall(), calls, "abC", "abc", most=24), False)
        self.assertEqual(told_of(hall(), calls, "abC", "abc"), ["either"] * 24)
        self.assertEqual(fewest_lost(hall(), calls, "abC", "abC"), list(range(24)))


class Refused(unittest.TestCase):
    def test_twenty_five_calls(self):
        for calls in (["a"] * 25, ["ba"] * 25, ["aB"] + ["a"] * 24, ["a"] * 400):
            for name, ask in all_asked(calls, "?", "?", -1).items():
                with self.subTest(name):
                    self.assertEqual(caught(TooMany, ask).most, 24)

    def test_bad_and_empty_parts(self):
        for name, ask in all_asked(["a", "ba", "aB"], "?", "?", -1).items():
            with self.subTest(name):
                self.assertRaises(BadPart, ask)
        for name, ask in all_asked(["a", "aB", "ba"], "?", "?", -1).items():
            with self.subTest(name):
                self.assertEqual(caught(Empty, ask).wall, "a")

    def test_bad_rooms(self):
        for bad in ("", "ab", "aBc", "abcd", "abd"):
            for name, ask in all_asked(["a"], bad, "abc", -1).items():
                with self.subTest(name):
                    self.assertRaises(BadRoom, ask)
            for name, ask in all_asked(["a"], "abc", bad, -1).items():
                if name != "ends_within":
                    self.assertRaises(BadRoom, ask)

    def test_bad_counts_last(self):
        for most in (-1, -GREAT):
            asked = all_asked(["a"], "abc", "abc", most)
            self.assertRaises(BadCount, asked["ends_within"])
            self.assertRaises(BadCount, asked["surely_there"])

    def test_hardened(self):
        for calls in ([], ["a"], ["a"] * 25, ["?"]):
            self.assertRaises(BadCount, hardened, calls, -1)
            self.assertRaises(BadCount, hardened, calls, -GREAT)
        for calls, many in ((["a"] * 25, 0), (["a"] * 13, 1), (["a"], 24), (["a"], GREAT), (["?"] * 9, 2)):
            self.assertEqual(caught(TooMany, hardened, calls, many).most, 24)

    def test_hardened_just_within(self):
        self.assertEqual(hardened(["a"], 23), ["a"] * 24)
        self.assertEqual(hardened(["a"] * 24, 0), ["a"] * 24)
        self.assertEqual(hardened(["a", "b"], 11), ["a"] * 12 + ["b"] * 12)

    def test_hardened_of_no_calls(self):
        for many in (0, 1, 24, 10 ** 30, GREAT):
            self.assertEqual(hardened([], many), [])
            self.assertEqual(hardened((), many), [])

    def test_hardened_looks_at_nothing_else(self):
        self.assertEqual(hardened(["?", "aA"], 1), ["?", "?", "aA", "aA"])


class HandedInAndTold(unittest.TestCase):
    def test_told_is_the_askers_own(self):
        for ask in all_asked(["a", "c", "C", ""], "ABC", "abC").values():
            told_again(ask)
        told_again(lambda: hardened(["a", "c"], 1))
        calls = ["a"]
        told = hardened(calls, 0)
        told.append("b")
        self.assertEqual(calls, ["a"])

    def test_handed_in_is_not_changed(self):
        calls = ["a", "c", "C"]
        for ask in all_asked(calls).values():
            ask()
        hardened(calls, 1)
        self.assertEqual(calls, ["a", "c", "C"])

    def test_tuples_in_place_of_lists(self):
        tuples = all_asked(("a", "c", "C"), "ABC", "abC")
        for name, ask in all_asked(["a", "c", "C"], "ABC", "abC").items():
            self.assertEqual(ask(), tuples[name]())

    def test_by_name(self):
        self.assertEqual(fewest_lost(goal="abC", room="abC", calls=["c"], hall=hall()), [0])
        self.assertEqual(told_of(goal="abC", room="abC", calls=["c"], hall=hall()), ["lost"])
        self.assertEqual(stories(goal="abC", room="abC", calls=["c"], hall=hall()), 1)
        self.assertEqual(ends_within(most=0, room="abC", calls=["c"], hall=hall()), ["abc"])
        self.assertIs(surely_there(most=0, goal="abc", room="abC", calls=["c"], hall=hall()), True)
        self.assertEqual(hardened(many=1, calls=["c"]), ["c", "c"])

    def test_behind_a_star(self):
        self.assertRaises(TypeError, ends_within, hall(), [], "abc", 0)
        self.assertRaises(TypeError, surely_there, hall(), [], "abc", "abc", 0)
        self.assertRaises(TypeError, ends_within, hall(), [], "abc")
        self.assertRaises(TypeError, surely_there, hall(), [], "abc", "abc")


if __name__ == "__main__":
    unittest.main()
