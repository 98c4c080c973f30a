"""A desk: [22] and the interface of nearcall/desk.py."""

import random
import unittest

import plain
from nearcall.crowd import Crowd
from nearcall.desk import Desk
from nearcall.errors import HallError, Missing, NothingLeft
from nearcall.halls import Hall
from nearcall.pages import page, read_page
from nearcall.rows import read_row
from nearcall.steering import behind_calls, steer


def crowd():
    return read_page("hall abc aB\nrow go .a\nrow gone <nobody>\nrow ring <ring>\nwalker ann abc\nwalker bob ABC\n")


class Case(unittest.TestCase):
    def setUp(self):
        self.desk = Desk(crowd())

    def says(self, *pairs):
        """Lines and their answers, one after the other."""
        for line, answer in pairs:
            told = self.desk.say(line)
            self.assertIs(type(told), str)
            self.assertEqual(told, answer, line)

    def no_change(self, line, answer):
        """A line that is answered so, and changes nothing."""
        before = (page(self.desk.crowd()), self.desk.crowd().left(), self.desk.crowd().made())
        self.says((line, answer))
        self.assertEqual((page(self.desk.crowd()), self.desk.crowd().left(), self.desk.crowd().made()), before)


class Deeds(Case):
    def done(self, line, *deeds):
        twin = self.desk.crowd()
        twin.all_of(deeds)
        self.says((line, "done"))
        self.assertEqual(self.desk.crowd(), twin)
        self.assertEqual(self.desk.crowd().steps_done(), twin.steps_done())

    def test_each(self):
        self.done("come cy Abc", ("come", "cy", "Abc"))
        self.done("go bob", ("go", "bob"))
        self.done("tell on .aB ~bAc (<go> .)*12", ("tell", "on", read_row(".aB ~bAc (<go> .)*12")))
        self.done("tell on -", ("tell", "on", read_row("-")))
        self.done("untell on", ("untell", "on"))
        self.done("lead .C ~BAc", ("lead", read_row(".C ~BAc"), ()))
        self.done("lead -", ("lead", read_row("-"), ()))
        self.done("lead .", ("lead", read_row("."), ()))
        self.done("only cy <go>", ("lead", read_row("<go>"), ("cy",)))
        self.done("only cy,ann,cy .c .C", ("lead", read_row(".c .C"), ("cy", "ann", "cy")))
        self.done("unbar aB", ("unbar", "aB"))
        self.done("bar bc", ("bar", "bc"))
        self.done("put d", ("put", "d", ()))
        self.done("put e aE DE", ("put", "e", ("aE", "DE")))
        self.done("merge d", ("merge", "d"))

    def test_strike(self):
        self.says(("lead .C", "done"), ("come cy abc", "done"), ("strike 0", "done"), ("where ann", "abc"), ("strike 0", "done"),
                  ("names", "ann bob"), ("strike 0", "no nostep"), ("undo", "no nothingleft"))

    def test_strike_refused(self):
        self.says(("come cy abc", "done"), ("go cy", "done"))
        self.no_change("strike 0", "no hangs")
        self.no_change("strike 2", "no nostep")
        self.no_change("strike 999999", "no nostep")

    def test_undo_and_redo(self):
        for line in ("come cy Abc", "go bob", "tell on .aB ~bAc (<go> .)*12", "tell on -", "untell on", "lead .C", "lead -",
                     "only cy,ann,cy .c .C", "only cy <go>", "unbar aB", "bar bc", "put d", "put e aE DE", "merge d"):
            self.says((line, "done"), ("undo", line), ("redo", line))
        self.assertEqual(self.desk.crowd().left(), (14, 0))

    def test_steps_of_none_and_several(self):
        made = crowd()
        made.all_of([])
        made.all_of([("go", "ann"), ("lead", read_row(".c"), ("bob", "bob")), ("put", "d", ("cD",)), ("tell", "on", read_row("-"))])
        self.desk = Desk(made)
        lines = "go ann; only bob,bob .c; put d cD; tell on -"
        self.says(("undo", lines), ("undo", "none"), ("undo", "no nothingleft"), ("redo", "none"), ("redo", lines),
                  ("redo", "no nothingleft"))

    def test_refusals_by_their_words(self):
        for line, answer in (
                ("come Cy abc", "no badname"), ("come ann abc", "no taken"), ("come cy aBc", "no badroom"),
                ("come toolongaa abc", "no badname"), ("come cy \n", "no badroom"), ("go cy", "no nowalker"), ("go \n", "no nowalker"),
                ("go ann\n", "no nowalker"), ("tell Go -", "no badname"), ("untell on", "no norow"), ("untell ?", "no norow"),
                ("lead .ba", "no badpart"), ("lead .aB", "no empty"), ("lead ~Abc", "no badturn"), ("lead <on>", "no norow"),
                ("lead <gone>", "no norow"), ("lead <ring>", "no ring"), ("only cy .a", "no nowalker"), ("only ann,cy .ba", "no nowalker"),
                ("only ann .ba", "no badpart"), ("bar aB", "no badbar"), ("bar ??", "no badbar"), ("bar b", "no badbar"),
                ("bar Ab", "no alike"), ("bar ab", "no fixed"), ("bar bc", "no inway"), ("unbar ab", "no nobar"),
                ("unbar \n", "no nobar"), ("put a", "no badwalls"), ("put de", "no badwalls"), ("put D", "no badwalls"),
                ("put d ab", "no badbar"), ("put d aD aD", "no badbar"), ("put d ad aD", "no fixed"), ("put d cD Cd", "no alike"),
                ("put d cd", "no inway"), ("merge d", "no nowall"), ("merge ab", "no nowall"), ("where cy", "no nowalker"),
                ("blame ?", "no nowalker"), ("who aBc", "no badroom"), ("who ?", "no badroom"), ("table on", "no norow"),
                ("table gone", "no norow"), ("table ring", "no ring"), ("table Go!", "no norow"), ("redo", "no nothingleft"),
                ("undo", "no nothingleft"), ("steer ? abc .a", "no badroom"), ("steer abc ? .a", "no badroom"),
                ("steer ? ? .ba", "no badpart"), ("steer ? ? .aB .ba", "no empty"), ("steer ? ? .ba .aB", "no badpart"),
                ("steer abc abc .?", "no badpart"), ("steer abc abc ..", "no badpart"),
                ("steer ? ?" + " .ba" * 13, "no toomany")):
            with self.subTest(line):
                self.no_change(line, answer)

    def test_the_last_wall(self):
        self.desk = Desk(Crowd(Hall("a")))
        self.no_change("merge a", "no badwalls")

    def test_full(self):
        for name in "cdefgh":
            self.says((f"come {name} abc", "done"))
        self.no_change("come i ?", "no full")
        for name in "abcde":
            self.says((f"tell {name} -", "done"))
        self.no_change("tell i -", "no full")
        self.says(("tell a .a", "done"))


class Asked(Case):
    def test_walkers(self):
        self.says(("where ann", "abc"), ("where bob", "ABC"), ("who abc", "ann"), ("who AbC", "none"), ("names", "ann bob"),
                  ("blame ann", "-1 -1 -1"), ("only bob .a", "done"), ("blame bob", "0 0 -1"), ("lead .ac", "done"),
                  ("who abc", "ann bob"), ("blame bob", "1 1 1"))

    def test_no_walkers(self):
        self.desk = Desk(Crowd(Hall("a")))
        self.says(("names", "none"), ("who a", "none"), ("who A", "none"))

    def test_table(self):
        self.says(("table go", "=a =b c"), ("table go", "=a =b c"))
        self.assertEqual((self.desk.crowd().kept(), self.desk.crowd().made()), (["go"], 1))
        self.says(("unbar aB", "done"), ("table go", "=a b c"), ("table gone", "no norow"))
        self.assertEqual((self.desk.crowd().kept(), self.desk.crowd().made()), (["go"], 2))

    def test_a_kept_table_comes_along(self):
        made = crowd()
        made.table("go")
        self.desk = Desk(made)
        self.says(("table go", "=a =b c"))
        self.assertEqual(self.desk.crowd().made(), 1)

    def test_asking_changes_nothing(self):
        for line in ("where ann", "who abc", "names", "blame ann", "steer abc abc"):
            self.no_change(line, self.desk.say(line))


class Steer(Case):
    def test_steer(self):
        self.says(("steer abC abc .c", "0"), ("steer abc abc", "none"), ("steer abc abc .C", "none"),
                  ("steer abc abC", "no way"), ("steer abc abC .c", "no way"), ("steer ABC abc .aC .c", "0 1"),
                  ("steer abc abC .", "no way"))

    def test_twelve_calls(self):
        line = "steer ABC abc" + " .c" * 11 + " .a"
        places = [int(word) for word in self.desk.say(line).split(" ")]
        self.assertEqual(behind_calls(Hall("abc", ["aB"]), ["c"] * 11 + ["a"], places, "ABC"), "abc")

    def test_behind_changed_halls(self):
        self.says(("steer abc ABc .A", "no way"), ("put d aD", "done"), ("steer abc ABc .A", "no badroom"))
        self.says(("steer Abcd abcd .a", "0"), ("merge b", "done"), ("steer AcD acd .a", "0"), ("steer abcd abcd .a", "no badroom"),
                  ("undo", "merge b"), ("undo", "put d aD"), ("steer Abc abc .a", "0"), ("steer Abc abc .d", "no badpart"))

    def test_against_steer(self):
        chance = random.Random(22)
        for walls, bars in plain.some_halls("abcd", 10, 51):
            place = Hall(walls, bars)
            desk = Desk(Crowd(place))
            for _ in range(20):
                calls = plain.some_calls(walls, bars, chance.randrange(5), chance)
                room, goal = chance.choice(place.rooms()), chance.choice(place.rooms())
                answer = desk.say(" ".join(["steer", room, goal] + ["." + part for part in calls]))
                if answer == "no way":
                    self.assertIsNone(steer(place, calls, room, goal))
                else:
                    places = [] if answer == "none" else [int(word) for word in answer.split(" ")]
                    self.assertEqual(behind_calls(place, calls, places, room), goal)


class NoForm(Case):
    def test_words(self):
        for line in ("", " ", "\n", "?", "come", "come cy", "come cy abc abc", "go", "go ann bob", "tell", "tell on", "untell",
                     "untell go on", "lead", "only", "only ann", "bar", "bar aB bC", "unbar", "unbar aB aC", "put", "merge",
                     "merge a b", "strike", "strike 0 1", "undo 1", "redo all", "undo\n", "names\n", "names ann", "where",
                     "where ann bob", "who", "who abc ABC", "blame", "blame ann bob", "table", "table go on", "steer",
                     "steer abc", "steer abc abc c", "steer abc abc .c c", "steer abc abc .c c.", "Come cy abc", "GO ann", "busy",
                     "left", "kept", "made", "rows", "row go", "hall", "twin", "all_of", "do", "say", "what", "done", "none",
                     "undo;", "come,cy,abc", "steer? ? ?"):
            with self.subTest(line):
                self.no_change(line, "what")

    def test_blanks(self):
        for line in ("go ann", "names", "undo", "redo", "come cy abc", "tell on .a .b", "lead .a .b", "only ann,bob .a", "put d aD cD",
                     "where ann", "steer abc abc .a .b", "strike 0"):
            words = line.split(" ")
            for spoilt in (" " + line, line + " ", *("  ".join((" ".join(words[:at]), " ".join(words[at:])))
                                                     for at in range(1, len(words)))):
                with self.subTest(spoilt):
                    self.no_change(spoilt, "what")

    def test_rows_that_are_none(self):
        for text in ("a", ".1", ".a -", "- -", "~", "<>", "<Go>", "(.a)", "(.a)*01", "()*1", ".a\n", "\n.a", ".a .b\n", "..", ".abcdefghijklm",
                     ".a " * 60 + ".a", "(" * 13 + "-" + ")*1" * 13, "(-)*" + str(10 ** 30 + 1)):
            for ahead in ("lead ", "tell on ", "only ann ", "tell Bad ", "only nobody "):
                with self.subTest(ahead + text):
                    self.no_change(ahead + text, "what")

    def test_numbers(self):
        for text in ("", "00", "01", "000000", "-1", "+1", "1.", "1,0", "x", "1234567", "0000000", "1000000", "1\n", "\n", "a1",
                     "1_0"):
            with self.subTest(text):
                self.no_change("strike " + text, "what")
        for text in ("0", "1", "10", "123456", "999999", "100000"):
            with self.subTest(text):
                self.no_change("strike " + text, "no nostep")

    def test_only_with_strange_names(self):
        for text in (",", "ann,", ",ann", "ann,,bob", ",,,", "?", "\n", "ann\n", "ann;bob", "ann,bob,", "Ann", "." * 30, "," * 900):
            with self.subTest(text):
                self.no_change("only " + text + " .a", "no nowalker")
        self.says(("only ann,bob,ann .C", "done"))

    def test_words_of_line_feeds(self):
        self.no_change("come \n \n", "no badname")
        self.no_change("where \n", "no nowalker")
        self.no_change("put \n", "no badwalls")
        self.no_change("put d \n", "no badbar")
        self.no_change("steer \n \n", "no badroom")
        self.no_change("steer abc abc .\n", "no badpart")
        self.no_change("go\nann", "what")


class Apart(Case):
    def test_the_crowd_that_is_handed_in(self):
        made = crowd()
        self.desk = Desk(made)
        self.says(("go ann", "done"), ("table go", "=a =b c"))
        self.assertEqual((made, made.left(), made.made()), (crowd(), (0, 0), 0))
        made.go("bob")
        self.says(("names", "bob"))

    def test_the_crowd_that_is_told(self):
        told = self.desk.crowd()
        self.assertIs(type(told), Crowd)
        told.go("ann")
        told.table("go")
        self.says(("names", "ann bob"), ("go bob", "done"))
        self.assertEqual(told.names(), ["bob"])
        self.assertEqual(self.desk.crowd().made(), 0)
        self.assertEqual(self.desk.crowd().names(), ["ann"])

    def test_two_desks(self):
        made = crowd()
        one, two = Desk(made), Desk(made)
        one.say("go ann")
        self.assertEqual(two.say("names"), "ann bob")

    def test_what_can_be_taken_back_comes_along(self):
        made = crowd()
        made.go("ann")
        made.go("bob")
        made.undo()
        self.desk = Desk(made)
        self.says(("redo", "go bob"), ("undo", "go bob"), ("undo", "go ann"), ("names", "ann bob"))
        self.assertEqual(made.left(), (1, 1))

    def test_by_name(self):
        self.assertEqual(Desk(crowd=crowd()).say(line="names"), "ann bob")

    def test_methods_are_its_own(self):
        self.assertIn("say", vars(Desk))
        self.assertIn("crowd", vars(Desk))


class AgainstACrowd(Case):
    """Lines of deeds against the deeds."""

    def test_many_lines(self):
        chance = random.Random(9)
        lines = {
            "come ann abc": ("come", "ann", "abc"), "come cy ABC": ("come", "cy", "ABC"), "go ann": ("go", "ann"),
            "tell on .C": ("tell", "on", read_row(".C")), "untell on": ("untell", "on"), "lead <on>": ("lead", read_row("<on>"), ()),
            "only ann,cy ~BAc": ("lead", read_row("~BAc"), ("ann", "cy")), "bar bC": ("bar", "bC"), "unbar bC": ("unbar", "bC"),
            "put d aD": ("put", "d", ("aD",)), "merge d": ("merge", "d"), "merge c": ("merge", "c"), "put c": ("put", "c", ()),
        }
        made = crowd()
        counts = {"done": 0}
        for _ in range(1500):
            line = chance.choice([*lines, "undo", "redo", "strike 1"])
            try:
                wanted = self.wanted(made, lines, line)
            except (HallError, Missing, NothingLeft) as refusal:
                wanted = "no " + refusal.word
            self.says((line, wanted))
            self.assertEqual(page(self.desk.crowd()), page(made))
            counts[wanted] = counts.get(wanted, 0) + 1
        self.assertGreater(counts["done"], 300)
        self.assertGreater(len(counts), 15)

    def wanted(self, made, lines, line):
        by_deed = {deed: text for text, deed in lines.items()}
        if line in ("undo", "redo"):
            return "; ".join(by_deed[deed] for deed in getattr(made, line)())
        if line == "strike 1":
            made.strike(1)
        else:
            made.do(lines[line])
        return "done"


if __name__ == "__main__":
    unittest.main()
