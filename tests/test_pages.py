"""Pages: [21] and the interface of nearcall/pages.py."""

import itertools
import random
import unittest

import plain
from nearcall.crowd import Crowd
from nearcall.errors import BadPage, HallError, NothingLeft
from nearcall.halls import Hall
from nearcall.pages import page, read_page
from nearcall.rows import read_row
from plain import caught

FULL = """hall abc aB bC
row go .aB ~bAc (<go> .)*12
row on -
row up <nobody>
walker ann abc
walker bob ABC
walker cy ABC
"""
LINES = FULL.split("\n")[:-1]


def crowd():
    made = Crowd(Hall("abc", ["bC", "aB"]))
    for name, room in (("cy", "ABC"), ("bob", "ABC"), ("ann", "abc")):
        made.come(name, room)
    for name, text in (("up", "<nobody>"), ("on", "-"), ("go", ".aB ~bAc (<go> .)*12")):
        made.tell(name, read_row(text))
    return made


def text_of(lines):
    return "".join(line + "\n" for line in lines)


def is_page(lines):
    """Whether lines are a page, as [21] says: something stands so just where it is written so again."""
    try:
        return page(read_page(text_of(lines))) == text_of(lines)
    except BadPage:
        return False


class There(unittest.TestCase):
    def test_page(self):
        self.assertEqual(page(crowd()), FULL)

    def test_a_page_of_a_hall_alone(self):
        self.assertEqual(page(Crowd(Hall("x"))), "hall x\n")
        self.assertEqual(page(Crowd(Hall("xyz", ["yZ", "Xy", "xZ"]))), "hall xyz Xy xZ yZ\n")

    def test_a_page_changes_nothing(self):
        made = crowd()
        page(made)
        self.assertEqual((made.left(), made.kept(), made.made()), ((6, 0), [], 0))

    def test_behind_changed_halls(self):
        made = crowd()
        made.put("e", bars=["cE", "aE"])
        made.merge("b")
        made.lead(read_row(".A"), names=["ann"])
        self.assertEqual(page(made).split("\n")[0], "hall ace aC aE cE")
        self.assertEqual(page(made).split("\n")[4:], ["walker ann Ace", "walker bob ACe", "walker cy ACe", ""])
        self.assertEqual(read_page(page(made)), made)


class Back(unittest.TestCase):
    def test_read(self):
        made = read_page(FULL)
        self.assertIs(type(made), Crowd)
        self.assertEqual(made, crowd())
        self.assertEqual(page(made), FULL)
        self.assertEqual(made.hall(), Hall("abc", ["aB", "bC"]))
        self.assertEqual((made.names(), made.rows()), (["ann", "bob", "cy"], ["go", "on", "up"]))
        self.assertEqual(made.row("up"), read_row("<nobody>"))

    def test_nothing_to_take_back(self):
        made = read_page(FULL)
        self.assertEqual((made.left(), made.steps_done(), made.kept(), made.made()), ((0, 0), [], [], 0))
        self.assertRaises(NothingLeft, made.undo)
        self.assertRaises(NothingLeft, made.redo)
        self.assertEqual([made.blame(name) for name in made.names()], [(-1, -1, -1)] * 3)

    def test_used_further(self):
        made = read_page(FULL)
        made.lead(read_row(".C"))
        self.assertEqual((made.blame("ann"), made.where("ann")), ((0, 0, 0), "ABC"))
        made.come("dee", "abc")
        made.strike(0)
        self.assertEqual((made.where("ann"), made.where("dee"), made.left()), ("abc", "abc", (1, 0)))
        made.undo()
        self.assertEqual(page(made), FULL)
        self.assertRaises(NothingLeft, made.undo)

    def test_there_and_back(self):
        chance = random.Random(21)
        for walls, bars in plain.small_halls():
            made = Crowd(Hall(walls, bars))
            for name in chance.sample(("ann", "b", "cyabcdef", "dee", "e", "flo", "gus", "hal"), chance.randrange(9)):
                made.come(name, chance.choice(made.hall().rooms()))
            for name in chance.sample(("go", "on", "up", "a", "b", "c", "d", "e"), chance.randrange(9)):
                made.tell(name, read_row(chance.choice(("-", ".", ".zZ", "~q", "(<go>)*0", ".aB ~bAc (<go> .)*12"))))
            twin = read_page(page(made))
            self.assertEqual(twin, made)
            self.assertEqual(page(twin), page(made))

    def test_eight_of_each(self):
        lines = ["hall a"] + [f"row {name} -" for name in "abcdefgh"] + [f"walker {name} A" for name in "abcdefgh"]
        made = read_page(text_of(lines))
        self.assertEqual((len(made), len(made.rows())), (8, 8))
        self.bad(lines[:9] + ["row i -"] + lines[9:], 9)
        self.bad(lines + ["walker i A"], 17)

    def bad(self, lines, at):
        self.assertEqual(caught(BadPage, read_page, text_of(lines)).at, at, lines)

    def test_by_name(self):
        self.assertEqual(page(crowd=read_page(text=FULL)), FULL)


class Refused(unittest.TestCase):
    def bad(self, text, at):
        refusal = caught(BadPage, read_page, text)
        self.assertIs(type(refusal), BadPage)
        self.assertEqual(refusal.at, at, text)
        self.assertIsInstance(refusal, HallError)

    def test_no_signs(self):
        self.bad("", 0)

    def test_no_line_feed(self):
        for many in range(1, len(LINES) + 1):
            self.bad(text_of(LINES[:many])[:-1], many - 1)
        self.bad("hall", 0)
        self.bad("?", 0)
        self.bad("hall x\n?", 1)
        self.bad("?\nhall x", 0)
        self.bad("hall x\n ", 1)

    def test_line_feeds_more(self):
        self.bad("\n", 0)
        self.bad("\nhall x\n", 0)
        self.bad("hall x\n\n", 1)
        self.bad(FULL + "\n", 7)

    def test_bad_halls(self):
        for line in ("", "hall", "hall ", " hall x", "hall  x", "hall x ", "Hall x", "hallx", "hall X", "hall ba", "hall aa",
                     "hall abcdefghijklm", "hall ab ba", "hall ab aB aB", "hall ab aB Ab", "hall ab aB ab",
                     "hall abc bC aB", "hall ab  aB", "hall ab aB ", "hall ab aC", "hall 1", "row go -", "walker ann x"):
            self.bad(line + "\n", 0)
            self.bad(line + "\nwalker ann ?\n", 0)

    def test_bad_rows(self):
        for line in ("row", "row ", "row go", "row go ", "row  go -", "row go  -", "row go - ", " row go -", "row Go -",
                     "row abcdefghi -", "row - -", "row go .a  .b", "row go .1", "row go (-)*01", "row go " + ".a " * 60 + ".a",
                     "Row go -", "rows go -", "hall abc", "tell go -", "row go -;"):
            self.bad("hall abc\n" + line + "\n", 1)
            self.bad("hall abc\nrow a -\n" + line + "\nwalker ann ?\n", 2)

    def test_bad_walkers(self):
        for line in ("walker", "walker ", "walker ann", "walker ann ", "walker  ann abc", "walker ann  abc",
                     "walker ann abc ", " walker ann abc", "walker Ann abc", "walker abcdefghi abc", "walker ann ab",
                     "walker ann aBc", "walker ann abcd", "walkers ann abc", "walker ann abc abc", "come ann abc"):
            self.bad("hall abc aB\n" + line + "\n", 1)
            self.bad("hall abc aB\nrow go -\nwalker a abc\n" + line + "\n?\n", 3)

    def test_out_of_order(self):
        self.bad("hall a\nrow on -\nrow go -\n", 2)
        self.bad("hall a\nrow go -\nrow go -\n", 2)
        self.bad("hall a\nwalker bob a\nwalker ann a\n", 2)
        self.bad("hall a\nwalker ann a\nwalker ann A\n", 2)
        self.bad("hall a\nwalker ann a\nrow go -\n", 2)
        self.bad("hall a\nrow go -\nhall a\n", 2)

    def test_rows_taken_out(self):
        self.bad(text_of(LINES[1:]), 0)
        for at in range(1, len(LINES)):
            left = LINES[:at] + LINES[at + 1:]
            self.assertEqual(page(read_page(text_of(left))), text_of(left))

    def test_rows_put_in(self):
        for at, line in itertools.product(range(len(LINES) + 1), LINES + ["", "?"]):
            lines = LINES[:at] + [line] + LINES[at:]
            self.check_first_bad(lines)

    def test_rows_exchanged(self):
        for one, two in itertools.combinations(range(len(LINES)), 2):
            lines = list(LINES)
            lines[one], lines[two] = lines[two], lines[one]
            self.check_first_bad(lines)

    def check_first_bad(self, lines):
        """Lines of the full page, put in or exchanged: the first one behind which they don't rise as there is bad."""
        at = 0
        while self.rises(lines[:at + 1]):
            at += 1
        self.bad(text_of(lines), at)

    def rises(self, lines):
        if lines[0] != LINES[0] or any(line not in LINES for line in lines):
            return False
        places = [LINES.index(line) for line in lines]
        return all(one < two for one, two in itertools.pairwise(places))

    def test_signs_spoilt(self):
        for at, sign in itertools.product(range(len(FULL)), "\n ?A~a"):
            text = FULL[:at] + sign + FULL[at + 1:]
            self.check_spoilt(text)
            self.check_spoilt(FULL[:at] + sign + FULL[at:])
            self.check_spoilt(FULL[:at] + FULL[at + 1:])

    def check_spoilt(self, text):
        """It is a page just where it is written so again; else the rows ahead of the bad one are one, and no more."""
        try:
            made = read_page(text)
        except BadPage as refusal:
            lines = text.split("\n")
            self.assertTrue(refusal.at == 0 or is_page(lines[:refusal.at]))
            last = refusal.at == len(lines) - 1
            self.assertTrue(last or not is_page(lines[:refusal.at + 1]))
            self.assertLessEqual(refusal.at, len(lines) - 1)
        else:
            self.assertEqual(page(made), text)


if __name__ == "__main__":
    unittest.main()
