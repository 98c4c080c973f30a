"""A log: [16] and the interface of nearcall/logs.py."""

import random
import unittest

import plain
from nearcall.errors import BadPart, BadRoom, Empty, NoStory, NothingLeft, TooMany
from nearcall.halls import Hall
from nearcall.logs import Log
from plain import caught, told_again


def hall():
    return Hall("abc", ["aB"])


def log_of(beginning, *marks, place=None):
    """A log of marks as str writes them."""
    log = Log(hall() if place is None else place, beginning)
    for mark in marks:
        (log.call if mark[0] == "." else log.seen)(mark[1:])
    return log


def all_told(log):
    return (log.fewest(), log.words(), log.choices(), log.maybe(), len(log), str(log))


class Ordinary(unittest.TestCase):
    def test_a_new_log(self):
        log = Log(hall(), "abc")
        self.assertEqual(all_told(log), (0, [], 1, ["abc"], 0, "abc"))

    def test_marks_tell_none(self):
        log = Log(hall(), "abC")
        self.assertIsNone(log.call("c"))
        self.assertIsNone(log.seen("abc"))

    def test_calls_alone(self):
        log = log_of("ABC", ".a", ".c")
        self.assertEqual(all_told(log), (0, ["open", "open"], 1, ["ABC", "ABc", "abC", "abc"], 2, "ABC .a .c"))

    def test_sights(self):
        log = log_of("ABC", ".a", ".c", "@ABc")
        self.assertEqual(all_told(log), (1, ["lost", "heard"], 1, ["ABc"], 3, "ABC .a .c @ABc"))

    def test_sights_without_calls(self):
        log = log_of("ABC", "@ABC", "@ABC")
        self.assertEqual(all_told(log), (0, [], 1, ["ABC"], 2, "ABC @ABC @ABC"))
        self.assertRaises(NoStory, log.seen, "ABc")

    def test_several_stretches(self):
        log = log_of("ABC", ".c", ".c", "@ABc", ".a", ".B", ".C", "@ABc", ".", "@ABc", ".C", ".")
        self.assertEqual(log.fewest(), 1)
        self.assertEqual(log.words(), ["either", "either", "either", "either", "lost", "either", "open", "open"])
        # 3 stories of the first stretch, 3 of the second (a is lost, or heard and then B), 2 of the third.
        self.assertEqual(log.choices(), 18)
        self.assertEqual(log.maybe(), ["ABC", "ABc"])
        self.assertEqual(str(log), "ABC .c .c @ABc .a .B .C @ABc . @ABc .C .")
        self.assertEqual(len(log), 11)

    def test_parts_are_written_as_sent(self):
        log = log_of("ABC", ".a")
        self.assertEqual(str(log), "ABC .a")
        self.assertEqual(log.back(), ("call", "a"))

    def test_back(self):
        log = log_of("ABC", ".c", "@ABc", ".C")
        self.assertEqual(log.back(), ("call", "C"))
        self.assertEqual(log.back(), ("seen", "ABc"))
        self.assertEqual(all_told(log), (0, ["open"], 1, ["ABC", "ABc"], 1, "ABC .c"))
        self.assertEqual(log.back(), ("call", "c"))
        self.assertEqual(all_told(log), all_told(Log(hall(), "ABC")))
        self.assertRaises(NothingLeft, log.back)
        self.assertRaises(IndexError, log.back)

    def test_another_sight_behind_one_taken_back(self):
        log = log_of("ABC", ".c", "@ABc")
        log.back()
        log.seen("ABC")
        self.assertEqual((log.words(), log.fewest()), (["lost"], 1))


class AgainstAllStories(unittest.TestCase):
    def test_some_logs(self):
        chance = random.Random(16)
        for walls, bars in [("a", ()), ("bx", ("bX",)), *plain.some_halls("abc", 6, 41), *plain.some_halls("cmxz", 4, 42)]:
            for _ in range(4):
                self.check_log(walls, bars, chance)

    def check_log(self, walls, bars, chance):
        place, found = Hall(walls, bars), plain.rooms(walls, bars)
        room = chance.choice(found)
        log = Log(place, room)
        fewest, words, choices = 0, [], 1
        for _ in range(4):
            calls = plain.some_calls(walls, bars, chance.randrange(5), chance)
            for part in calls:
                log.call(part)
            every = {goal: plain.all_stories(plain.leads(walls, bars, calls), room, goal) for goal in found}
            self.assertEqual(log.words(), words + ["open"] * len(calls))
            self.assertEqual((log.fewest(), log.choices()), (fewest, choices))
            self.assertEqual(log.maybe(), [goal for goal in found if every[goal]])
            for goal in found:
                if not every[goal]:
                    self.assertRaises(NoStory, log.seen, goal)
            room = chance.choice(log.maybe())
            log.seen(room)
            fewest += min(len(story) for story in every[room])
            choices *= len(every[room])
            for at in range(len(calls)):
                lost = {at in story for story in every[room]}
                words.append("either" if len(lost) == 2 else "lost" if lost == {True} else "heard")
            self.assertEqual((log.fewest(), log.words(), log.choices(), log.maybe()), (fewest, words, choices, [room]))


class Refused(unittest.TestCase):
    def check_refused(self, log, kind, asked, thing):
        before = all_told(log)
        refusal = caught(kind, asked, thing)
        self.assertEqual(all_told(log), before)
        return refusal

    def test_beginning(self):
        for room in ("", "ab", "aBc", "abcd", "abd", "abc\n"):
            self.assertRaises(BadRoom, Log, hall(), room)

    def test_calls(self):
        log = log_of("ABC", ".c", "@ABc", ".C")
        for part in ("d", "ba", "aA", " ", "aBd"):
            self.check_refused(log, BadPart, log.call, part)
        self.assertEqual(self.check_refused(log, Empty, log.call, "aB").wall, "a")

    def test_sights(self):
        log = log_of("ABC", ".c")
        for room in ("", "ab", "aBc", "abcd", "abd"):
            self.check_refused(log, BadRoom, log.seen, room)
        self.check_refused(log, NoStory, log.seen, "AbC")

    def test_thirteen_calls_in_a_stretch(self):
        log = log_of("ABC", *[".c"] * 12)
        self.assertEqual(self.check_refused(log, TooMany, log.call, "c").most, 12)
        self.check_refused(log, BadPart, log.call, "ba")
        self.check_refused(log, Empty, log.call, "aB")
        log.seen("ABc")
        for _ in range(12):
            log.call("C")
        self.assertEqual(self.check_refused(log, TooMany, log.call, "").most, 12)

    def test_twelve_calls_behind_marks_taken_back(self):
        log = log_of("ABC", *[".c"] * 12, "@ABc")
        log.back()
        self.assertEqual(self.check_refused(log, TooMany, log.call, "c").most, 12)
        log.back()
        log.call("C")
        self.assertEqual(self.check_refused(log, TooMany, log.call, "c").most, 12)
        log.seen("ABC")
        log.call("c")
        log.back()
        log.back()
        self.assertEqual(self.check_refused(log, TooMany, log.call, "c").most, 12)

    def test_many_stretches(self):
        log = Log(hall(), "ABc")
        for _ in range(40):
            for _ in range(12):
                log.call("c")
            log.seen("ABc")
        self.assertEqual(len(log), 520)
        self.assertEqual(log.choices(), 2 ** 480)
        self.assertEqual(log.words(), ["either"] * 480)


class Twins(unittest.TestCase):
    def test_twins(self):
        log = log_of("ABC", ".c", "@ABc", ".C")
        twin = log.twin()
        self.assertIs(type(twin), Log)
        self.assertEqual(twin, log)
        self.assertEqual(all_told(twin), all_told(log))
        before = all_told(log)
        twin.call("a")
        twin.seen("abc")
        self.assertEqual(all_told(log), before)
        behind = all_told(twin)
        log.back()
        log.back()
        self.assertEqual(all_told(twin), behind)
        self.assertNotEqual(twin, log)

    def test_equal(self):
        self.assertTrue(log_of("ABC", ".c", "@ABc") == log_of("ABC", ".c", "@ABc"))
        self.assertFalse(log_of("ABC", ".c", "@ABc") != log_of("ABC", ".c", "@ABc"))
        self.assertTrue(Log(hall(), "ABC") == Log(hall(), "ABC"))
        for log in (log_of("ABC", ".c", "@ABC"), log_of("ABC", ".c"), log_of("ABc", ".c", "@ABc"),
                    log_of("ABC", ".c", "@ABc", "@ABc"), log_of("ABC", ".c", "@ABc", place=Hall("abc")),
                    log_of("ABC", ".Ac", "@ABc")):
            self.assertTrue(log != log_of("ABC", ".c", "@ABc"))
            self.assertFalse(log == log_of("ABC", ".c", "@ABc"))

    def test_equal_to_nothing_else(self):
        log = log_of("ABC", ".c")
        for thing in ("ABC .c", None, 1, ["ABC"], hall(), ("call", "c")):
            self.assertFalse(log == thing)
            self.assertTrue(log != thing)

    def test_equal_behind_marks_taken_back(self):
        log = log_of("ABC", ".c", ".C")
        log.back()
        self.assertEqual(log, log_of("ABC", ".c"))


class HandedInAndTold(unittest.TestCase):
    def test_told_is_the_askers_own(self):
        log = log_of("ABC", ".c", ".c", "@ABc", ".a")
        for asked in (log.words, log.maybe, log.fewest, log.choices):
            told_again(asked)
        self.assertEqual(str(log), "ABC .c .c @ABc .a")

    def test_by_name(self):
        log = Log(room="ABC", hall=hall())
        log.call(part="c")
        log.seen(room="ABc")
        self.assertEqual(str(log), "ABC .c @ABc")

    def test_methods_are_its_own(self):
        for name in ("call", "seen", "back", "fewest", "words", "choices", "maybe", "twin", "__eq__", "__len__",
                     "__str__"):
            self.assertIn(name, vars(Log))


if __name__ == "__main__":
    unittest.main()
