"""A crowd: [17] to [20], and the interface of nearcall/crowd.py and nearcall/state.py."""

import inspect
import random
import unittest

import plain
from nearcall import errors
from nearcall.crowd import Crowd
from nearcall.errors import (Alike, BadBar, BadDeed, BadName, BadPart, BadRoom, BadTree, BadTurn, BadWalls, Empty, Fixed,
                             Full, Hangs, HallError, InWay, Missing, NoBar, NoRow, NoStep, NothingLeft, NoWalker, NoWall,
                             Ring, Taken)
from nearcall.halls import Hall
from nearcall.making import table_of
from nearcall.rows import read_row
from nearcall.state import MOST_ROWS, MOST_WALKERS
from nearcall.tables import Table, of_call
from plain import caught, told_again

TWELVE = "abcdefghijkl"
EIGHT = ("ann", "bob", "cy", "dee", "eve", "flo", "gus", "hal")
NO_NAMES = ("", "Ann", "a b", "ann1", "abcdefghi", "-", "ann\n", "ann ")
NO_ROOMS = ("", "ab", "aBc", "abcd", "bac", "abd", "abc\n")
NO_ROWS = (None, True, 0, "", "-", (), ("steps", (("call", "1"),)), ("steps", (("call", "a"),) * 61),
           ("steps", (("times", True, ("steps", ())),)))


def row(text):
    return read_row(text)


def crowd(walls="abc", bars=("aB",)):
    """Ann and Bob, and a row go."""
    made = Crowd(Hall(walls, bars))
    made.come("ann", walls)
    made.come("bob", walls.upper())
    made.tell("go", row(".a"))
    return made


def standing(made):
    """All that can be asked of a crowd."""
    names = made.names()
    return (str(made.hall()), names, [made.where(name) for name in names], [made.blame(name) for name in names],
            {name: made.row(name) for name in made.rows()}, made.kept(), made.made(), made.steps_done(), made.left(),
            made.busy(), len(made), repr(made), {room: made.who(room) for room in made.hall().rooms()})


def ways(deed):
    """A deed by do, in all_of, and by its own method."""
    yield lambda made: made.do(deed)
    yield lambda made: made.all_of([deed])
    yield lambda made: made.all_of((("come", "zed", made.hall().rooms()[0]), ("go", "zed"), deed))
    if deed[0] == "lead":
        yield lambda made: made.lead(deed[1], names=list(deed[2]))
    elif deed[0] == "put":
        yield lambda made: made.put(deed[1], bars=list(deed[2]))
    else:
        yield lambda made: getattr(made, deed[0])(*deed[1:])


class Case(unittest.TestCase):
    def refused(self, made, kind, deed, **values):
        """A deed is refused by each way to do it, and changes nothing."""
        before = standing(made)
        for at, way in enumerate(ways(deed)):
            # To see whether nobody is led: the third way needs a place for one more.
            if at == 2 and len(made) == MOST_WALKERS:
                continue
            with self.subTest(deed=deed, way=at):
                refusal = caught(kind, way, made)
                self.assertIs(type(refusal), kind)
                for name, value in values.items():
                    self.assertEqual(getattr(refusal, name), value)
                self.assertEqual(standing(made), before)
                self.assertIs(made.busy(), False)

    def done(self, made, deed):
        """A deed is done by each way, always the same; the crowd behind it."""
        found = []
        for at, way in enumerate(ways(deed)):
            if at == 2 and (len(made) == MOST_WALKERS or deed[0] in ("merge", "lead")):
                continue
            twin = made.twin()
            self.assertIsNone(way(twin))
            self.assertEqual(len(twin.steps_done()), len(made.steps_done()) + 1)
            self.assertEqual(twin.steps_done()[-1][-1], deed)
            found.append(twin)
        for twin in found[1:]:
            self.assertEqual(twin, found[0])
            self.assertEqual(standing(twin)[:6], standing(found[0])[:6])
        return found[0]


class ComeAndGo(Case):
    def test_bounds(self):
        self.assertEqual((MOST_WALKERS, MOST_ROWS), (8, 8))
        self.assertEqual((type(MOST_WALKERS), type(MOST_ROWS)), (int, int))

    def test_a_new_crowd(self):
        made = Crowd(Hall("abc", ["aB"]))
        self.assertEqual(standing(made), ("abc aB", [], [], [], {}, [], 0, [], (0, 0), False, 0,
                                          "Crowd(0 walkers, 0 rows)", {room: [] for room in made.hall().rooms()}))

    def test_come(self):
        made = self.done(crowd(), ("come", "cy", "Abc"))
        self.assertEqual(made.names(), ["ann", "bob", "cy"])
        self.assertEqual(made.where("cy"), "Abc")
        self.assertEqual(made.blame("cy"), (-1, -1, -1))
        self.assertEqual(made.who("Abc"), ["cy"])
        self.assertEqual(len(made), 3)
        self.assertEqual(repr(made), "Crowd(3 walkers, 1 rows)")

    def test_names_rise(self):
        made = Crowd(Hall("a"))
        for name in ("zed", "b", "ann", "abcdefgh"):
            made.come(name, "a")
        self.assertEqual(made.names(), ["abcdefgh", "ann", "b", "zed"])
        self.assertEqual(made.who("a"), ["abcdefgh", "ann", "b", "zed"])
        self.assertEqual(made.who("A"), [])

    def test_come_refused(self):
        made = crowd()
        for name in NO_NAMES:
            self.refused(made, BadName, ("come", name, "abc"))
        self.refused(made, Taken, ("come", "ann", "abc"), name="ann")
        for room in NO_ROOMS:
            self.refused(made, BadRoom, ("come", "cy", room))
        self.refused(made, BadName, ("come", "Ann", "?"))
        self.refused(made, Taken, ("come", "bob", "?"), name="bob")

    def test_full(self):
        made = Crowd(Hall("abc", ["aB"]))
        for name in EIGHT:
            made.come(name, "abc")
        self.assertEqual(len(made), 8)
        self.refused(made, Full, ("come", "zed", "abc"), most=8)
        self.refused(made, Full, ("come", "zed", "?"), most=8)
        self.refused(made, Taken, ("come", "ann", "?"), name="ann")
        self.refused(made, BadName, ("come", "ANN", "?"))
        made.go("ann")
        made.come("zed", "abc")

    def test_go(self):
        made = self.done(crowd(), ("go", "ann"))
        self.assertEqual(made.names(), ["bob"])
        self.assertEqual(caught(NoWalker, made.where, "ann").name, "ann")

    def test_go_refused(self):
        for name in ("cy", "", "Ann", "go"):
            self.refused(crowd(), NoWalker, ("go", name), name=name)

    def test_asked(self):
        made = crowd()
        for asked in (made.where, made.blame):
            for name in ("cy", "", "?"):
                self.assertEqual(caught(NoWalker, asked, name).name, name)
        for room in NO_ROOMS:
            self.assertRaises(BadRoom, made.who, room)


class TellAndUntell(Case):
    def test_tell(self):
        made = self.done(crowd(), ("tell", "on", row(".b <go> <gone>")))
        self.assertEqual(made.rows(), ["go", "on"])
        self.assertEqual(made.row("on"), row(".b <go> <gone>"))
        self.assertEqual(repr(made), "Crowd(2 walkers, 2 rows)")

    def test_in_the_place_of_an_elder(self):
        made = self.done(crowd(), ("tell", "go", row("-")))
        self.assertEqual((made.rows(), made.row("go")), (["go"], row("-")))

    def test_tell_refused(self):
        made = crowd()
        for name in NO_NAMES:
            self.refused(made, BadName, ("tell", name, row(".a")))
        for tree in NO_ROWS:
            self.refused(made, BadTree, ("tell", "on", tree))
            self.refused(made, BadTree, ("tell", "go", tree))
        self.refused(made, BadName, ("tell", "Go", None))

    def test_full(self):
        made = crowd()
        for name in EIGHT[:7]:
            made.tell(name, row("-"))
        self.refused(made, Full, ("tell", "on", row("-")), most=8)
        self.refused(made, Full, ("tell", "on", None), most=8)
        self.refused(made, BadName, ("tell", "On", None))
        self.refused(made, BadTree, ("tell", "go", None))
        made = self.done(made, ("tell", "go", row("~abc")))
        self.assertEqual(len(made.rows()), 8)

    def test_untell(self):
        made = self.done(crowd(), ("untell", "go"))
        self.assertEqual(made.rows(), [])
        self.assertEqual(caught(NoRow, made.row, "go").name, "go")

    def test_untell_refused(self):
        for name in ("on", "", "Go", "ann"):
            self.refused(crowd(), NoRow, ("untell", name), name=name)


class Lead(Case):
    def test_all(self):
        made = self.done(crowd(), ("lead", row(".C"), ()))
        self.assertEqual((made.where("ann"), made.where("bob")), ("abC", "ABC"))

    def test_some(self):
        made = self.done(crowd(), ("lead", row(".c"), ("bob",)))
        self.assertEqual((made.where("ann"), made.where("bob")), ("abc", "ABc"))
        self.assertEqual((made.blame("ann"), made.blame("bob")), ((-1, -1, -1), (-1, -1, 3)))

    def test_named_twice(self):
        made = self.done(crowd("abc", ()), ("lead", row("~bca"), ("bob", "ann", "bob")))
        self.assertEqual(made.steps_done()[-1], [("lead", row("~bca"), ("bob", "ann", "bob"))])
        twice = self.done(crowd("abc", ()), ("lead", row("~Bca"), ("bob", "bob")))
        self.assertEqual(twice.where("bob"), self.done(crowd("abc", ()), ("lead", row("~Bca"), ("bob",))).where("bob"))
        self.assertEqual(twice.where("bob"), "AbC")

    def test_rows_by_names(self):
        made = crowd()
        made.tell("on", row("(<go> .C)*1000000000000000000000000000000"))
        made = self.done(made, ("lead", row("<on>"), ()))
        self.assertEqual((made.where("ann"), made.where("bob")), ("abC", "abC"))

    def test_without_walkers(self):
        made = Crowd(Hall("abc"))
        made.lead(row(".a"))
        self.assertEqual(made.left(), (1, 0))
        self.refused(made, BadTree, ("lead", None, ()))
        self.refused(made, NoRow, ("lead", row("<go>"), ()), name="go")
        self.refused(made, BadPart, ("lead", row(".z"), ()))

    def test_refused(self):
        made = crowd()
        made.tell("ring", row(".a <ring>"))
        self.refused(made, NoWalker, ("lead", row(".a"), ("ann", "cy", "dee")), name="cy")
        self.refused(made, NoWalker, ("lead", None, ("ann", "")), name="")
        for tree in NO_ROWS:
            self.refused(made, BadTree, ("lead", tree, ()))
            self.refused(made, BadTree, ("lead", tree, ("ann",)))
        self.refused(made, BadPart, ("lead", row(".a .ba .aB"), ()))
        self.refused(made, Empty, ("lead", row(".a .aB .ba"), ()), wall="a")
        self.refused(made, BadTurn, ("lead", row("~Abc"), ("ann",)))
        self.refused(made, NoRow, ("lead", row(".a <gone>"), ("ann",)), name="gone")
        self.refused(made, Ring, ("lead", row(".a <ring>"), ("ann",)), name="ring")
        self.refused(made, BadTree, ("lead", ("steps", (("call", "ba"), ("call", "1"))), ()))


class Bars(Case):
    def test_bar(self):
        made = self.done(crowd(), ("bar", "bC"))
        self.assertEqual(made.hall(), Hall("abc", ["aB", "bC"]))
        self.assertEqual(made.hall().bars(), ["aB", "bC"])
        self.assertEqual(made.where("ann"), "abc")

    def test_bad_bars(self):
        for bar in ("", "a", "ab ", "ba", "aa", "aA", "ad", "abc", "aB", " a", "a\n"):
            self.refused(crowd(), BadBar, ("bar", bar), at=0)

    def test_fixed_and_alike(self):
        made = crowd()
        made.merge("c")
        # a forces b; with ab, a forces B, too.
        self.refused(made, Fixed, ("bar", "ab"), side="a")
        self.refused(made, Alike, ("bar", "Ab"), one="A", other="B")

    def test_in_way(self):
        made = crowd()
        made.come("cy", "Abc")
        self.refused(made, InWay, ("bar", "bc"), name="ann")
        self.refused(made, InWay, ("bar", "Ac"), name="cy")
        self.refused(made, InWay, ("bar", "BC"), name="bob")

    def test_fixed_and_alike_go_ahead_of_in_way(self):
        made = Crowd(Hall("ab", ["aB"]))
        made.come("ann", "ab")
        self.refused(made, Fixed, ("bar", "ab"), side="a")
        made.come("bob", "Ab")
        self.refused(made, Alike, ("bar", "Ab"), one="A", other="B")

    def test_unbar(self):
        made = self.done(crowd(), ("unbar", "aB"))
        self.assertEqual(made.hall(), Hall("abc"))
        made.come("cy", "aBc")

    def test_unbar_refused(self):
        for bar in ("ab", "", "Ba", "ad", "a"):
            self.refused(crowd(), NoBar, ("unbar", bar))


class PutAndMerge(Case):
    def test_put(self):
        made = self.done(crowd("acd", ("aD",)), ("put", "b", ()))
        self.assertEqual(made.hall(), Hall("abcd", ["aD"]))
        self.assertEqual((made.where("ann"), made.where("bob")), ("abcd", "AbCD"))
        self.assertEqual(made.blame("ann"), (-1, -1, -1, -1))

    def test_put_with_bars(self):
        made = self.done(crowd(), ("put", "z", ("cZ", "aZ")))
        self.assertEqual(made.hall(), Hall("abcz", ["aB", "aZ", "cZ"]))
        self.assertEqual((made.where("ann"), made.where("bob")), ("abcz", "ABCz"))

    def test_put_ahead_of_all(self):
        made = self.done(crowd("xyz", ()), ("put", "a", ("Ax",)))
        self.assertEqual((made.where("ann"), made.where("bob")), ("axyz", "aXYZ"))

    def test_up_to_the_widest(self):
        made = Crowd(Hall("a"))
        made.come("ann", "A")
        for wall in TWELVE[:0:-1]:
            made.put(wall, bars=["a" + wall.upper()])
        self.assertEqual(made.hall().walls(), TWELVE)
        self.assertEqual(made.where("ann"), "A" + TWELVE[1:])
        self.refused(made, BadWalls, ("put", "m", ()))
        self.refused(made, BadWalls, ("put", "m", ("?",)))
        self.refused(made, BadWalls, ("put", "a", ("?",)))
        made.merge("f")
        made.put("m")
        self.assertEqual(len(made.hall()), 12)

    def test_bad_walls(self):
        for wall in ("", "A", "D", "ab", "de", "a", "c", "1", " ", "d ", "\n"):
            self.refused(crowd(), BadWalls, ("put", wall, ()))
            self.refused(crowd(), BadWalls, ("put", wall, ("?",)))

    def test_bad_bars(self):
        for bar in ("", "ab", "aB", "da", "dd", "dD", "ae", "abd", "d", "Bc"):
            self.refused(crowd(), BadBar, ("put", "d", (bar,)), at=0)
            self.refused(crowd(), BadBar, ("put", "d", ("aD", "cD", bar, "?")), at=2)
        self.refused(crowd(), BadBar, ("put", "d", ("aD", "cD", "aD")), at=2)

    def test_fixed_and_alike(self):
        self.refused(crowd(), Fixed, ("put", "d", ("ad", "aD")), side="a")
        self.refused(crowd(), Fixed, ("put", "d", ("BD", "aD", "ad")), side="a")
        # B forces A; behind both bars A forces D, and D forces B.
        self.refused(crowd(), Alike, ("put", "d", ("Ad", "bD")), one="A", other="B")
        self.refused(crowd(), Alike, ("put", "d", ("cD", "Cd")), one="C", other="D")

    def test_bad_bars_go_ahead_of_fixed(self):
        self.refused(crowd(), BadBar, ("put", "d", ("ad", "aD", "ab")), at=2)

    def test_in_way(self):
        made = crowd()
        self.refused(made, InWay, ("put", "d", ("cD", "Ad")), name="bob")
        self.refused(made, InWay, ("put", "d", ("cD", "bd")), name="ann")
        self.refused(made, Alike, ("put", "d", ("Cd", "cD")), one="C", other="D")

    def test_merge(self):
        made = self.done(crowd(), ("merge", "c"))
        self.assertEqual(made.hall(), Hall("ab", ["aB"]))
        self.assertEqual((made.where("ann"), made.where("bob")), ("ab", "AB"))
        self.assertEqual(made.blame("bob"), (-1, -1))

    def test_the_bars_that_are_then_there(self):
        made = self.done(crowd("abcd", ("aB", "bC", "cD")), ("merge", "b"))
        self.assertEqual(made.hall().bars(), ["aC", "aD", "cD"])
        made = self.done(crowd("abcd", ("aB", "bC")), ("merge", "d"))
        # No room had both a and C before, though that was no bar.
        self.assertEqual(made.hall().bars(), ["aB", "aC", "bC"])
        made = self.done(crowd("abc", ()), ("merge", "a"))
        self.assertEqual(made.hall(), Hall("bc"))

    def test_merge_refused(self):
        for wall in ("", "d", "A", "ab", "bc", "abc", " "):
            self.refused(crowd(), NoWall, ("merge", wall))
        alone = crowd("x", ())
        alone.untell("go")
        self.refused(alone, BadWalls, ("merge", "x"))
        self.refused(alone, NoWall, ("merge", "X"))

    def test_a_wall_put_and_merged(self):
        made = crowd()
        made.put("d", bars=["aD"])
        made.merge("d")
        self.assertEqual(made, crowd())


class BadDeeds(Case):
    def test_bad_deeds(self):
        made = crowd()
        for deed in ((), ("fly",), ("come",), ("come", "cy"), ("come", "cy", "abc", 1), ("go",), ("go", "ann", 1),
                     ("tell", "on"), ("untell",), ("untell", "go", ()), ("lead", row("-")), ("lead", row("-"), (), ()),
                     ("bar",), ("bar", "bC", 0), ("unbar",), ("put", "d"), ("put",), ("put", "d", (), ()), ("merge",),
                     ("merge", "c", "b"), ("strike", 0), ("undo",), ("Come", "cy", "abc"), ("", "ann"), (None, "ann"),
                     (True, 1), (0, 1), ((), ()), (("go", "ann"), ("go", "bob")), ("all_of", ())):
            before = standing(made)
            for asked, thing in ((made.do, deed), (made.all_of, [deed]), (made.all_of, (("go", "ann"), deed))):
                with self.subTest(deed=deed):
                    self.assertIs(type(caught(BadDeed, asked, thing)), BadDeed)
                    self.assertEqual(standing(made), before)

    def test_deeds_are_looked_at_from_left_to_right(self):
        made = crowd()
        self.assertRaises(BadRoom, made.all_of, [("come", "cy", "?"), ("fly",)])
        self.assertRaises(BadDeed, made.all_of, [("fly",), ("come", "cy", "?")])
        self.assertRaises(NoWalker, made.all_of, [("go", "ann"), ("go", "ann"), ("fly",)])


class Blame(Case):
    def test_calls(self):
        made = crowd()
        made.lead(row(".a"))
        self.assertEqual(made.blame("ann"), (3, 3, -1))
        made.lead(row(".b"), names=["bob"])
        self.assertEqual((made.blame("ann"), made.blame("bob")), ((3, 3, -1), (3, 4, -1)))
        made.lead(row("-"))
        made.lead(row("."))
        self.assertEqual(made.blame("bob"), (3, 4, -1))

    def test_turns(self):
        made = crowd("abc", ())
        made.lead(row(".a"))
        made.lead(row("~bCA"))
        # What was written on a stands on b now.
        self.assertEqual(made.blame("ann"), (-1, 3, -1))
        made.lead(row(".a"))
        made.lead(row("~bCA"))
        self.assertEqual(made.blame("ann"), (-1, 5, 3))
        made.lead(row("~bCA ~bCA ~bCA"))
        self.assertEqual(made.blame("ann"), (-1, 5, 3))

    def test_rows_of_both(self):
        made = crowd("abc", ())
        made.lead(row(".a"))
        made.lead(row("~bca .a ~bca"))
        self.assertEqual(made.blame("ann"), (-1, 4, 3))
        made.lead(row("(.a ~bca)*3"))
        self.assertEqual(made.blame("ann"), (5, 5, 5))

    def test_one_who_comes_later(self):
        made = crowd()
        made.lead(row(".a"))
        made.come("cy", "abc")
        made.go("ann")
        made.come("ann", "abc")
        self.assertEqual((made.blame("ann"), made.blame("cy")), ((-1, -1, -1), (-1, -1, -1)))
        self.assertEqual(made.blame("bob"), (3, 3, -1))

    def test_walls_put_and_merged(self):
        made = crowd()
        made.lead(row(".ac"))
        made.put("d")
        self.assertEqual(made.blame("ann"), (3, 3, 3, -1))
        made.lead(row(".D"))
        made.merge("b")
        self.assertEqual(made.blame("ann"), (3, 3, 5))
        made.put("b")
        self.assertEqual(made.blame("ann"), (3, -1, 3, 5))

    def test_in_one_step(self):
        made = crowd()
        made.all_of([("come", "cy", "ABC"), ("lead", row(".c"), ()), ("put", "d", ()), ("lead", row(".d"), ("cy",))])
        self.assertEqual((made.blame("ann"), made.blame("cy")), ((-1, -1, 3, -1), (-1, -1, 3, 3)))

    def test_behind_undo_redo_and_strike(self):
        made = crowd()
        made.lead(row(".c"))
        made.lead(row(".a"))
        made.undo()
        self.assertEqual(made.blame("ann"), (-1, -1, 3))
        made.redo()
        self.assertEqual(made.blame("ann"), (4, 4, 3))
        made.strike(2)
        self.assertEqual(made.blame("ann"), (3, 3, 2))
        made.strike(2)
        self.assertEqual(made.blame("ann"), (2, 2, -1))

    def test_what_a_table_fixes(self):
        made = crowd("abc", ())
        tree = row("(.a ~bCA)*2 .C")
        made.lead(tree)
        entries = table_of(made.hall(), tree).entries()
        self.assertEqual(made.blame("ann"), tuple(3 if entry[0] == "=" else -1 for entry in entries))


class Steps(Case):
    def test_a_step_of_no_deed(self):
        made = crowd()
        self.assertIsNone(made.all_of([]))
        self.assertEqual(made.steps_done()[-1], [])
        self.assertEqual(made.left(), (4, 0))
        self.assertEqual(made.undo(), [])
        self.assertEqual(made.left(), (3, 1))
        self.assertEqual(made.redo(), [])
        made.all_of(())
        self.assertEqual(made.left(), (5, 0))

    def test_a_step_of_several(self):
        made = crowd()
        deeds = [("go", "ann"), ("come", "ann", "ABC"), ("lead", row("<go>"), ("ann",)), ("untell", "go")]
        made.all_of(deeds)
        self.assertEqual((made.where("ann"), made.rows(), made.left()), ("abC", [], (4, 0)))
        self.assertEqual(made.steps_done()[3], deeds)
        self.assertEqual(made.undo(), deeds)
        self.assertEqual((made.where("ann"), made.rows()), ("abc", ["go"]))
        self.assertEqual(made.redo(), deeds)
        self.assertEqual((made.where("ann"), made.rows()), ("abC", []))

    def test_refused_in_the_midst(self):
        made = crowd()
        made.lead(row(".c"))
        made.undo()
        made.table("go")
        before = standing(made)
        deeds = [("go", "ann"), ("tell", "on", row("-")), ("put", "d", ()), ("come", "cy", "abc"), ("go", "bob")]
        self.assertRaises(BadRoom, made.all_of, deeds)
        self.assertEqual(standing(made), before)
        self.assertEqual(made.left(), (3, 1))
        self.assertEqual(made.redo(), [("lead", row(".c"), ())])

    def test_undo_and_redo(self):
        made = crowd()
        stands = [standing(made)[:5]]
        for deed in (("come", "cy", "Abc"), ("lead", row("<go>"), ()), ("bar", "bC"), ("unbar", "aB"),
                     ("put", "d", ("cD",)), ("merge", "b"), ("tell", "go", row("-")), ("untell", "go"), ("go", "ann")):
            if deed == ("bar", "bC"):
                made.lead(row(".c"))
                stands.append(standing(made)[:5])
            made.do(deed)
            stands.append(standing(made)[:5])
        for at in range(len(stands) - 2, -1, -1):
            made.undo()
            self.assertEqual(standing(made)[:5], stands[at])
        self.assertEqual(made.left(), (3, 10))
        for at in range(1, len(stands)):
            made.redo()
            self.assertEqual(standing(made)[:5], stands[at])
        self.assertEqual(made.left(), (13, 0))

    def test_undo_and_redo_tell_the_deeds(self):
        made = crowd()
        self.assertEqual(made.undo(), [("tell", "go", row(".a"))])
        self.assertEqual(made.undo(), [("come", "bob", "ABC")])
        self.assertEqual(made.redo(), [("come", "bob", "ABC")])

    def test_nothing_left(self):
        made = crowd()
        self.assertRaises(NothingLeft, made.redo)
        for _ in range(3):
            made.undo()
        before = standing(made)
        self.assertRaises(NothingLeft, made.undo)
        self.assertEqual(standing(made), before)
        self.assertEqual(made.left(), (0, 3))

    def test_another_step_ends_what_can_be_done_again(self):
        made = crowd()
        made.undo()
        made.all_of([])
        self.assertEqual(made.left(), (3, 0))
        self.assertRaises(NothingLeft, made.redo)

    def test_a_refused_deed_ends_nothing(self):
        made = crowd()
        made.undo()
        self.assertRaises(NoWalker, made.go, "cy")
        self.assertRaises(NoStep, made.strike, 9)
        self.assertEqual(made.left(), (2, 1))
        made.redo()
        self.assertEqual(made, crowd())

    def test_many_steps(self):
        made = crowd()
        for _ in range(300):
            made.lead(row(".C ~BAc"))
        self.assertEqual(made.left(), (303, 0))
        for _ in range(300):
            made.undo()
        self.assertEqual(made, crowd())


class Strike(Case):
    def test_strike(self):
        made = crowd()
        made.lead(row(".C"))
        made.lead(row("~BAc"))
        self.assertIsNone(made.strike(3))
        self.assertEqual(made.steps_done()[3:], [[("lead", row("~BAc"), ())]])
        self.assertEqual((made.where("ann"), made.where("bob"), made.left()), ("ABc", "abC", (4, 0)))

    def test_the_last_one(self):
        made = crowd()
        made.strike(2)
        self.assertEqual((made.rows(), made.left()), ([], (2, 0)))

    def test_no_step(self):
        made = crowd()
        before = standing(made)
        for at in (-1, 3, -3, 10 ** 39, -10 ** 39):
            self.assertEqual(caught(NoStep, made.strike, at).at, at)
        self.assertEqual(caught(NoStep, Crowd(Hall("a")).strike, 0).at, 0)
        self.assertEqual(standing(made), before)

    def test_hangs(self):
        made = crowd()
        made.all_of([])
        made.lead(row(".c"), names=["ann"])
        made.go("ann")
        made.undo()
        before = standing(made)
        # Its number as it stands ahead of the strike.
        self.assertEqual(caught(Hangs, made.strike, 0).at, 4)
        self.assertEqual(standing(made), before)
        self.assertEqual(made.left(), (5, 1))
        self.assertIs(made.busy(), False)
        made.redo()

    def test_the_first_that_hangs(self):
        made = crowd()
        made.lead(row("<go>"))
        made.untell("go")
        self.assertEqual(caught(Hangs, made.strike, 2).at, 3)
        made.strike(3)
        self.assertEqual(caught(Hangs, made.strike, 2).at, 3)

    def test_hangs_in_the_midst_of_a_step(self):
        made = crowd()
        made.all_of([("come", "cy", "abc"), ("go", "bob"), ("come", "dee", "abc")])
        before = standing(made)
        self.assertEqual(caught(Hangs, made.strike, 1).at, 3)
        self.assertEqual(standing(made), before)

    def test_hangs_by_a_hall(self):
        made = crowd()
        made.put("d")
        made.come("cy", "abcd")
        self.assertEqual(caught(Hangs, made.strike, 3).at, 4)
        made = Crowd(Hall("ab"))
        made.come("ann", "aB")
        made.lead(row(".A"))
        made.bar("aB")
        self.assertEqual(caught(Hangs, made.strike, 1).at, 2)

    def test_nothing_can_be_done_again_behind_a_strike(self):
        made = crowd()
        made.lead(row(".C"))
        made.undo()
        made.strike(2)
        self.assertEqual(made.left(), (2, 0))
        self.assertRaises(NothingLeft, made.redo)

    def test_the_strike_itself_is_not_taken_back(self):
        made = crowd()
        made.strike(1)
        self.assertEqual(made.undo(), [("tell", "go", row(".a"))])
        self.assertEqual(made.names(), ["ann"])
        self.assertEqual(made.redo(), [("tell", "go", row(".a"))])
        self.assertEqual(made.names(), ["ann"])

    def test_undo_behind_a_strike(self):
        made = crowd()
        made.lead(row(".C"))
        made.lead(row("~BAc"))
        made.strike(3)
        made.undo()
        self.assertEqual((made.where("ann"), made.where("bob")), ("abc", "ABC"))
        made.redo()
        self.assertEqual((made.where("ann"), made.where("bob")), ("ABc", "abC"))


class Tables(Case):
    def test_table(self):
        made = crowd()
        told = made.table("go")
        self.assertIs(type(told), Table)
        self.assertEqual(told, of_call(made.hall(), "a"))
        self.assertEqual((made.kept(), made.made()), (["go"], 1))

    def test_asked_again(self):
        made = crowd()
        for _ in range(3):
            made.table("go")
        self.assertEqual((made.kept(), made.made()), (["go"], 1))

    def test_what_is_needed_is_not_kept(self):
        made = crowd()
        made.tell("on", row("<go> .C"))
        made.lead(row("<on>"))
        self.assertEqual((made.kept(), made.made()), ([], 0))
        made.table("on")
        self.assertEqual((made.kept(), made.made()), (["on"], 1))
        made.table("go")
        self.assertEqual((made.kept(), made.made()), (["go", "on"], 2))

    def test_refused(self):
        made = crowd()
        made.tell("ring", row(".a <pair>"))
        made.tell("pair", row(".C <ring>"))
        made.tell("gone", row(".a <nobody>"))
        made.tell("bad", row(".a .ba"))
        made.tell("empty", row(".a .aB"))
        made.tell("turn", row("~Abc"))
        made.table("go")
        for name, kind, values in (("on", NoRow, {"name": "on"}), ("Go", NoRow, {"name": "Go"}), ("", NoRow, {"name": ""}),
                                   ("ring", Ring, {"name": "ring"}), ("pair", Ring, {"name": "pair"}),
                                   ("gone", NoRow, {"name": "nobody"}), ("bad", BadPart, {}),
                                   ("empty", Empty, {"wall": "a"}), ("turn", BadTurn, {})):
            refusal = caught(kind, made.table, name)
            self.assertEqual({value: getattr(refusal, value) for value in values}, values)
            self.assertEqual((made.kept(), made.made()), (["go"], 1))

    def check_step(self, act, kept):
        made = crowd()
        made.tell("on", row("<go>"))
        made.table("go")
        made.table("on")
        act(made)
        self.assertEqual((made.kept(), made.made()), (["go", "on"] if kept else [], 2))
        if "go" in made.rows():
            made.table("go")
            self.assertEqual(made.made(), 2 if kept else 3)

    def test_let_go(self):
        for act in (lambda made: made.tell("go", row("-")), lambda made: made.tell("new", row("-")),
                    lambda made: made.untell("on"), lambda made: made.untell("go"), lambda made: made.unbar("aB"),
                    lambda made: made.put("d"), lambda made: made.merge("c"), lambda made: made.undo(),
                    lambda made: made.strike(3), lambda made: made.strike(2),
                    lambda made: made.all_of([("go", "ann"), ("unbar", "aB")])):
            self.check_step(act, False)

    def test_not_let_go(self):
        for act in (lambda made: made.come("cy", "abc"), lambda made: made.go("ann"), lambda made: made.lead(row("<on>")),
                    lambda made: made.tell("go", row(".a")), lambda made: made.all_of([]), lambda made: made.strike(0),
                    lambda made: made.all_of([("unbar", "aB"), ("bar", "aB")]),
                    lambda made: made.all_of([("put", "d", ("aD",)), ("merge", "d")]),
                    lambda made: made.all_of([("tell", "new", row("-")), ("untell", "new")]),
                    lambda made: made.all_of([("untell", "go"), ("tell", "go", row(".a"))]),
                    lambda made: caught(NoRow, made.all_of, [("unbar", "aB"), ("untell", "new")]),
                    lambda made: caught(NoBar, made.unbar, "ab")):
            self.check_step(act, True)

    def test_let_go_by_undo_and_redo(self):
        made = crowd()
        made.lead(row(".c"))
        made.table("go")
        made.undo()
        made.redo()
        self.assertEqual((made.kept(), made.made()), (["go"], 1))
        made.unbar("aB")
        self.assertEqual(made.kept(), [])
        made.table("go")
        made.undo()
        self.assertEqual((made.kept(), made.made()), ([], 2))
        made.table("go")
        self.assertEqual(made.table("go"), of_call(Hall("abc", ["aB"]), "a"))
        made.redo()
        self.assertEqual((made.kept(), made.made()), ([], 3))
        self.assertEqual(made.table("go"), of_call(Hall("abc"), "a"))

    def test_let_go_by_a_strike(self):
        made = crowd()
        made.unbar("aB")
        made.lead(row("<go>"))
        made.table("go")
        made.strike(4)
        self.assertEqual(made.kept(), ["go"])
        made.strike(3)
        self.assertEqual((made.kept(), made.made()), ([], 1))

    def test_a_strike_that_hangs_lets_nothing_go(self):
        made = crowd()
        made.lead(row("<go>"))
        made.table("go")
        self.assertRaises(Hangs, made.strike, 2)
        self.assertEqual((made.kept(), made.made()), (["go"], 1))


class Twins(Case):
    def test_a_twin_has_all(self):
        made = crowd()
        made.lead(row(".C"))
        made.all_of([])
        made.undo()
        made.table("go")
        twin = made.twin()
        self.assertIs(type(twin), Crowd)
        self.assertEqual(twin, made)
        self.assertEqual(standing(twin), standing(made))
        self.assertEqual(twin.redo(), [])

    def test_neither_changes_the_other(self):
        changes = (lambda one: one.come("cy", "abc"), lambda one: one.go("ann"), lambda one: one.tell("on", row("-")),
                   lambda one: one.untell("go"), lambda one: one.lead(row(".a")), lambda one: one.unbar("aB"),
                   lambda one: one.put("d"), lambda one: one.merge("c"), lambda one: one.undo(),
                   lambda one: one.redo(), lambda one: one.strike(0), lambda one: one.table("on"),
                   lambda one: one.all_of([]))
        for change in changes:
            made = crowd()
            made.tell("on", row("<go>"))
            made.all_of([])
            made.undo()
            made.table("go")
            before = standing(made)
            twin = made.twin()
            change(twin)
            self.assertEqual(standing(made), before)
            self.assertNotEqual(standing(twin), before)
            twin = made.twin()
            change(made)
            self.assertEqual(standing(twin), before)

    def test_equal(self):
        self.assertTrue(crowd() == crowd())
        self.assertFalse(crowd() != crowd())
        other = Crowd(Hall("abc", ["aB"]))
        other.tell("go", row("-"))
        for name, room in (("bob", "abc"), ("ann", "Abc"), ("cy", "abc")):
            other.come(name, room)
        other.go("cy")
        other.lead(row(".ABC"), names=["bob"])
        other.lead(row(".a"), names=["ann"])
        other.tell("go", row(".a"))
        self.assertEqual(other, crowd())

    def test_unequal(self):
        for change in (lambda one: one.come("cy", "abc"), lambda one: one.go("ann"), lambda one: one.tell("on", row("-")),
                       lambda one: one.tell("go", row("-")), lambda one: one.untell("go"),
                       lambda one: one.lead(row(".C")), lambda one: one.unbar("aB"), lambda one: one.merge("c")):
            made = crowd()
            change(made)
            self.assertTrue(made != crowd())
            self.assertFalse(made == crowd())

    def test_equal_to_nothing_else(self):
        for thing in (None, 0, "Crowd(2 walkers, 1 rows)", Hall("abc", ["aB"]), ["ann"]):
            self.assertFalse(crowd() == thing)
            self.assertTrue(crowd() != thing)


class HandedInAndTold(Case):
    def test_told_is_the_askers_own(self):
        made = crowd()
        made.lead(row(".C"))
        made.table("go")
        for asked in (made.names, made.rows, made.kept, made.steps_done, made.left, lambda: made.who("abC"),
                      lambda: made.blame("ann"), lambda: made.row("go")):
            told_again(asked)
        made.undo().clear()
        told = made.redo()
        self.assertEqual(told, [("lead", row(".C"), ())])
        told.append("spoilt")
        self.assertEqual(made.steps_done()[-1], [("lead", row(".C"), ())])

    def test_lists_changed_behind_the_call(self):
        made = crowd()
        names, bars, deeds = ["ann"], ["cD"], [("go", "ann"), ("go", "bob")]
        made.lead(row(".C"), names=names)
        made.lead(row(".c"))
        made.put("d", bars=bars)
        made.all_of(deeds)
        self.assertEqual((names, bars, len(deeds)), (["ann"], ["cD"], 2))
        names.append("cy")
        bars.clear()
        deeds.pop()
        steps = [[("lead", row(".C"), ("ann",))], [("lead", row(".c"), ())], [("put", "d", ("cD",))],
                 [("go", "ann"), ("go", "bob")]]
        self.assertEqual(made.steps_done()[3:], steps)
        made.strike(3)
        self.assertEqual(made.steps_done()[3:], steps[1:])
        self.assertEqual(made.undo(), steps[-1])
        self.assertEqual(made.hall().bars(), ["aB", "cD"])

    def test_by_name(self):
        made = Crowd(hall=Hall("abc"))
        made.come(room="abc", name="ann")
        made.tell(tree=row("-"), name="go")
        made.lead(names=("ann",), tree=row(".C"))
        made.bar(bar="bc")
        made.unbar(bar="bc")
        made.put(bars=(), wall="d")
        made.merge(wall="d")
        made.do(deed=("come", "bob", "ABC"))
        made.all_of(deeds=[])
        made.strike(at=8)
        self.assertEqual((made.where(name="ann"), made.blame(name="ann"), made.who(room="ABC")), ("abC", (-1, -1, 2), ["bob"]))
        self.assertEqual((made.row(name="go"), str(made.table(name="go"))), (row("-"), "a b c"))
        made.untell(name="go")
        made.go(name="ann")
        self.assertEqual(made.left(), (10, 0))

    def test_behind_a_star(self):
        made = crowd()
        self.assertRaises(TypeError, made.lead, row("-"), ())
        self.assertRaises(TypeError, made.put, "d", ())
        self.assertEqual(inspect.signature(Crowd.lead).parameters["names"].default, ())
        self.assertEqual(inspect.signature(Crowd.put).parameters["bars"].default, ())

    def test_methods_are_its_own(self):
        for name in """do all_of come go tell untell lead bar unbar put merge strike undo redo hall names where blame who
                rows row table kept made steps_done left busy twin __eq__ __len__ __repr__""".split():
            self.assertIn(name, vars(Crowd))

    def test_all_tell_none(self):
        made = crowd()
        for told in (made.come("cy", "abc"), made.go("cy"), made.tell("on", row("-")), made.untell("on"),
                     made.lead(row("-")), made.unbar("aB"), made.bar("aB"), made.put("d"), made.merge("d"),
                     made.do(("go", "ann")), made.all_of([]), made.strike(13)):
            self.assertIsNone(told)


class AgainstPlainCrowd(unittest.TestCase):
    """Many deeds, some of them refused, against a crowd that works out everything from the beginning."""

    NAMES = ("ann", "bob", "cy", "dee", "Bad")
    ROWS = ("go", "on", "up")

    def some_row(self, state, chance, deep=0):
        steps = []
        for _ in range(chance.randrange(4)):
            kind = chance.randrange(10)
            if kind < 4:
                steps.append(("call", chance.choice(plain.parts(state.walls)) if chance.random() < 0.95 else "ba"))
            elif kind < 7:
                steps.append(("turn", chance.choice(plain.known_turns(state.walls, tuple(state.bars)))))
            elif kind < 8 or deep:
                steps.append(("row", chance.choice(self.ROWS)))
            else:
                steps.append(("times", chance.randrange(3), self.some_row(state, chance, 1)))
        return ("steps", tuple(steps))

    def some_deed(self, state, chance):
        bars = plain.possible_bars("abcd")
        kind = chance.choice(["come"] * 3 + ["lead"] * 8 + ["tell"] * 3 + ["put"] * 3 +
                             ["go", "untell", "bar", "bar", "unbar", "merge"])
        some_rooms = plain.rooms(state.walls, state.bars) + ["?"]
        tree = self.some_row(state, chance) if chance.random() < 0.95 else None
        return {
            "come": lambda: (kind, chance.choice(self.NAMES), chance.choice(some_rooms)),
            "go": lambda: (kind, chance.choice(self.NAMES)),
            "tell": lambda: (kind, chance.choice((*self.ROWS, "Bad")), tree),
            "untell": lambda: (kind, chance.choice(self.ROWS)),
            "lead": lambda: (kind, tree, tuple(chance.choice(self.NAMES[:3]) for _ in range(chance.choice((0, 0, 1, 2))))),
            "bar": lambda: (kind, chance.choice(plain.possible_bars(state.walls) + ["?"])),
            "unbar": lambda: (kind, chance.choice(state.bars + ["?"])),
            "put": lambda: (kind, chance.choice("abcd"), tuple(chance.sample(bars, chance.choice((0, 0, 0, 1, 1, 2))))),
            "merge": lambda: (kind, chance.choice("abcd")),
        }[kind]()

    def told(self, made):
        names = made.names()
        return (made.hall().walls(), made.hall().bars(), {name: made.where(name) for name in names},
                {name: made.blame(name) for name in names}, {name: made.row(name) for name in made.rows()})

    def same(self, made, model, asked, *things):
        """Asks both; both tell the same, or refuse alike."""
        before = standing(made)
        try:
            wanted = getattr(model, asked)(*things)
        except plain.Refused as refused:
            kind = getattr(errors, refused.args[0])
            refusal = caught((HallError, Missing, NothingLeft), getattr(made, asked), *things)
            self.assertIs(type(refusal), kind, (asked, things))
            self.assertEqual([value for key, value in vars(refusal).items() if key != "word"], list(refused.args[1:]))
            self.assertEqual(standing(made), before)
            return False
        self.assertEqual(getattr(made, asked)(*things), wanted)
        self.assertEqual(self.told(made), model.told())
        self.assertEqual(made.steps_done(), model.steps)
        self.assertEqual(made.left(), (len(model.steps), len(model.undone)))
        return True

    def run_one(self, seed):
        chance = random.Random(seed)
        made, model = Crowd(Hall("abc", ["aB"])), plain.PlainCrowd("abc", ["aB"])
        self.same(made, model, "all_of", [("come", "ann", "abc"), ("come", "bob", "ABC"), ("come", "cy", "AbC")])
        done = 0
        for _ in range(40):
            what = chance.randrange(20)
            if what < 2:
                done += self.same(made, model, ("undo", "redo")[what])
            elif what == 2:
                done += self.same(made, model, "strike", chance.randrange(-1, len(model.steps) + 1))
            else:
                state = model.behind(model.steps)
                deeds = [self.some_deed(state, chance) for _ in range(1 if what < 18 else chance.randrange(4))]
                done += self.same(made, model, "all_of", deeds)
        return done

    def test_many_deeds(self):
        done = sum(self.run_one(seed) for seed in range(60))
        self.assertGreater(done, 1000)


if __name__ == "__main__":
    unittest.main()
