"""Rows: [10], [11] and the interface of nearcall/rows.py."""

import random
import re
import unittest

from nearcall.errors import BadText, BadTree
from nearcall.rows import MOST_DEEP, MOST_STEPS, MOST_TIMES, is_row, read_row, row_text
from plain import caught

CALL = ("call", "a")
NONE = ("steps", ())
SIGNS = [chr(at) for at in range(32, 127) if chr(at) != "%"] + ["\n"]
LETTERS = "abcdefghijklmnopqrstuvwxyzABCDEFGHIJKLMNOPQRSTUVWXYZ"


def row(*steps):
    return ("steps", steps)


def times(many, *steps):
    return ("times", many, row(*steps))


def nested(deep, *steps):
    """A row of so many groups within one another, the innermost of which has these steps."""
    found = row(*steps)
    for _ in range(deep):
        found = row(("times", 2, found))
    return found


# Texts with what they are; each is written just so.
WRITTEN = {
    "-": NONE,
    ".": row(("call", "")),
    ".aB": row(("call", "aB")),
    ".zZzZ": row(("call", "zZzZ")),
    "~b": row(("turn", "b")),
    "~abcdefghijkL": row(("turn", "abcdefghijkL")),
    ".abcdefghijkL": row(("call", "abcdefghijkL")),
    "<a>": row(("row", "a")),
    "<abcdefgh>": row(("row", "abcdefgh")),
    "(-)*0": row(times(0)),
    "(-)*1": row(times(1)),
    "(.)*10": row(times(10, ("call", ""))),
    "(. .)*7 .": row(times(7, ("call", ""), ("call", "")), ("call", "")),
    "((-)*2)*3": row(times(3, times(2))),
    "(~a)*1000000000000000000000000000000": row(times(10 ** 30, ("turn", "a"))),
    "(~a)*999999999999999999999999999999": row(times(10 ** 30 - 1, ("turn", "a"))),
    ".aB ~bAc (<go> .)*12": row(("call", "aB"), ("turn", "bAc"), times(12, ("row", "go"), ("call", ""))),
}


def is_written(text):
    """Whether a text is a written row, found by taking out innermost groups again and again."""
    # For a group that is taken out stands how deep it is, between two signs that no text has.
    step = r"(\.[a-zA-Z]{0,12}|~[a-zA-Z]{1,12}|<[a-z]{1,8}>|%[0-9]+%)"
    inner = rf"(-|{step}( {step})*)"
    many, deepest = len(re.findall(r"[.~<(]", text)), 0
    while group := re.search(rf"\({inner}\)\*(0|[1-9][0-9]*)(?![0-9])", text):
        if int(group[0].rpartition("*")[2]) > 10 ** 30:
            return False
        deep = 1 + max([0] + [int(found) for found in re.findall("%([0-9]+)%", group[0])])
        deepest = max(deep, deepest)
        text = f"{text[:group.start()]}%{deep}%{text[group.end():]}"
    return re.fullmatch(inner, text) is not None and many <= 60 and deepest <= 12


def can_go_on(begun):
    """Whether some signs behind a text make it a written row."""
    shut = ["".join(")*0" for _ in range(many)) for many in range(begun.count("(") + 1)]
    ends = [first + rest for first in ("", "a", "a>", ">", "-", ".", "0", "*0", ")*0") for rest in shut]
    return any(is_written(begun + end) for end in ends)


def wanted_place(text):
    """The place that BadText tells of a text, or None where it is written so."""
    if is_written(text):
        return None
    for at in range(len(text)):
        if not can_go_on(text[:at + 1]):
            return at
    return len(text)


def place(text):
    try:
        read_row(text)
    except BadText as refusal:
        return refusal.at
    return None


def some_row(chance, deep, most):
    """A row of at most so many steps, and how many it has."""
    found, many = [], 0
    while many < most and chance.random() < 0.8:
        kind = chance.choice(("call", "turn", "row", "times"))
        if kind == "times" and deep < 4:
            inner, more = some_row(chance, deep + 1, most - many - 1)
            found.append(("times", chance.choice((0, 1, 2, 10, 305, 10 ** 30)), inner))
            many += more
        elif kind == "row":
            found.append(("row", "".join(chance.choices(LETTERS[:26], k=chance.randint(1, 8)))))
        else:
            found.append(("turn" if kind == "turn" else "call", "".join(chance.choices(LETTERS, k=chance.randint(1, 12)))))
        many += 1
    return ("steps", tuple(found)), many


class Bounds(unittest.TestCase):
    def test_numbers(self):
        self.assertEqual((MOST_STEPS, MOST_DEEP, MOST_TIMES), (60, 12, 10 ** 30))
        for number in (MOST_STEPS, MOST_DEEP, MOST_TIMES):
            self.assertIs(type(number), int)


class Trees(unittest.TestCase):
    def check_none(self, *trees):
        for at, tree in enumerate(trees):
            # No tree is shown: one with the same tuple very often would never be written to the end.
            with self.subTest(at):
                self.assertIs(is_row(tree), False)
                self.assertRaises(BadTree, row_text, tree)

    def check_rows(self, *trees):
        for at, tree in enumerate(trees):
            with self.subTest(at):
                self.assertIs(is_row(tree), True)
                self.assertEqual(read_row(row_text(tree)), tree)

    def test_rows(self):
        self.check_rows(*WRITTEN.values())

    def test_no_trees_of_rows_at_all(self):
        self.check_none(None, True, False, 0, 1, "", "-", ".a", "steps", (), ("steps",), (("steps", ()),), ((), ()))

    def test_a_step_alone_is_no_row(self):
        self.check_none(CALL, ("turn", "a"), ("row", "a"), times(1, CALL))

    def test_wrong_words(self):
        self.check_none(("Steps", ()), ("step", ()), ("", ()), (None, ()), (1, ()), (("steps",), ()))
        self.check_none(row(("calls", "a")), row(("Call", "a")), row(("", "a")), row((None, "a")), row((1, "a")),
                        row(("steps", ())), row(NONE), row(("time", 1, NONE)), row(("TIMES", 1, NONE)), row((True, 1, NONE)))

    def test_wrong_lengths(self):
        self.check_none(("steps", (), ()), ("steps", CALL, CALL), ("steps",))
        self.check_none(row(("call",)), row(("call", "a", "b")), row(("turn",)), row(("turn", "a", "b")), row(("row",)),
                        row(("row", "a", "b")), row(("times",)), row(("times", 1)), row(("times", NONE)),
                        row(("times", 1, NONE, NONE)), row(()), row(("call", "a", NONE)), row(("times", "a")))

    def test_the_words_of_other_lengths(self):
        self.check_none(row(("times", 3)), row(("times", "abc")), row(("call", 3, NONE)), row(("turn", 3, NONE)),
                        row(("row", 3, NONE)))

    def test_what_stands_in_the_place_of_steps(self):
        self.check_none(("steps", None), ("steps", "a"), ("steps", ""), ("steps", 0), ("steps", True), ("steps", CALL),
                        row(None), row("call"), row(".a"), row(1), row(True), row((CALL,)), row(CALL, None), row(CALL, ()))

    def test_lists(self):
        self.check_none(["steps", ()], ("steps", []), ("steps", [CALL]), row(["call", "a"]), row(CALL, ["call", "a"]),
                        row(["times", 1, NONE]), row(("times", 1, ["steps", ()])), row(("times", 1, ("steps", []))), [])

    def test_sides(self):
        for sides in ("1", "a1", " ", "a ", " a", "\n", "a\n", ".", "-", "_", "a-b", "~", "@", "[", "`", "{",
                      "abcdefghijklm", "a" * 13, "a" * 4000):
            self.check_none(row(("call", sides)), row(("turn", sides)), row(CALL, times(1, ("call", sides))))
        for sides in ("a", "Z", "zA", "aa", "ba", "a" * 12, "ABCDEFGHIJKL"):
            self.check_rows(row(("call", sides)), row(("turn", sides)), row(CALL, times(1, ("turn", sides))))
        self.check_rows(row(("call", "")))
        self.check_none(row(("turn", "")))

    def test_sides_of_other_kinds(self):
        for sides in (None, True, False, 0, 1, (), ("a",), ("a", "b"), NONE):
            self.check_none(row(("call", sides)), row(("turn", sides)), row(("row", sides)))

    def test_names(self):
        for name in ("", "A", "aB", "a1", "a b", " a", "a\n", "<a>", "abcdefghi", "a" * 4000, "-", "`", "{"):
            self.check_none(row(("row", name)), row(times(1, ("row", name))))
        for name in ("a", "z", "abcdefgh", "aaaaaaaa"):
            self.check_rows(row(("row", name)), row(times(1, ("row", name))))

    def test_numbers(self):
        for many in (-1, -10 ** 30, 10 ** 30 + 1, 10 ** 40, True, False, None, "1", "", (), (1,), NONE):
            self.check_none(row(("times", many, NONE)), row(("times", 1, row(("times", many, row(CALL))))))
        for many in (0, 1, 2, 10, 10 ** 30 - 1, 10 ** 30):
            self.check_rows(row(("times", many, NONE)), row(("times", 1, row(("times", many, row(CALL))))))

    def test_what_stands_in_the_place_of_a_groups_row(self):
        for inner in (None, True, 0, "", "-", (), CALL, (CALL,), (NONE,), times(1), ("steps", CALL)):
            self.check_none(row(("times", 1, inner)), row(("times", 0, inner)))

    def test_most_steps(self):
        self.check_rows(row(*[CALL] * 60), row(*[("row", "a")] * 60), row(*[times(1)] * 60), row(times(5, *[CALL] * 59)),
                        row(times(1, *[CALL] * 29), times(1, *[CALL] * 29)))
        self.check_none(row(*[CALL] * 61), row(*[times(1)] * 61), row(times(5, *[CALL] * 60)), row(*[CALL] * 400),
                        row(times(1, *[CALL] * 29), times(1, *[CALL] * 30)), row(times(1, *[CALL] * 30), *[CALL] * 30),
                        row(*[CALL] * 59, times(1, CALL)), row(*[CALL] * 59, times(0, CALL)), row(*[CALL] * 60, None))

    def test_most_deep(self):
        self.check_rows(nested(12), nested(12, CALL), nested(12, *[CALL] * 48), nested(11, times(1), times(1)))
        self.check_none(nested(13), nested(13, CALL), nested(14), nested(29), nested(12, *[CALL] * 49))
        self.check_none(nested(12, CALL, times(1)), nested(0, CALL, ("times", 1, nested(12))))

    def test_groups_beside_one_another_are_not_deeper(self):
        self.check_rows(row(*[times(1, times(2))] * 30), nested(11, *[times(3)] * 49))
        self.check_none(row(*[times(1, times(2))] * 31), nested(11, *[times(3)] * 50))

    def test_tuples_far_within_one_another(self):
        deep = ()
        for _ in range(59):
            deep = (deep,)
        self.check_none(deep, ("steps", deep), row(deep), row(("call", deep)), row((deep, "a")), row(("times", deep, NONE)),
                        row(("times", 1, deep)))

    def test_the_same_tuple_very_often(self):
        # To the end there would be 400 ** 11 steps.
        again = row(CALL)
        for _ in range(11):
            again = row(*[("times", 1, again)] * 400)
        self.check_none(again)
        blank = ()
        for _ in range(30):
            blank = (blank,) * 400
        self.check_none(blank, ("steps", blank))

    def test_by_name(self):
        self.assertIs(is_row(tree=NONE), True)
        self.assertEqual(row_text(tree=NONE), "-")
        self.assertEqual(read_row(text="-"), NONE)


class Texts(unittest.TestCase):
    def test_written(self):
        for text, tree in WRITTEN.items():
            with self.subTest(text):
                self.assertEqual(row_text(tree), text)
                self.assertEqual(read_row(text), tree)

    def test_many_rows(self):
        chance = random.Random(11)
        for _ in range(300):
            tree, many = some_row(chance, 0, 60)
            self.assertLessEqual(many, 60)
            self.assertIs(is_row(tree), True)
            self.assertEqual(read_row(row_text(tree)), tree)

    def test_the_longest_rows(self):
        longest = row(*[("turn", "a" * 12)] * 60)
        self.assertEqual(read_row(row_text(longest)), longest)
        self.assertEqual(read_row(row_text(nested(12, *[CALL] * 48))), nested(12, *[CALL] * 48))
        many = row(*[("times", 10 ** 30, NONE)] * 60)
        self.assertEqual(read_row(row_text(many)), many)


class Refused(unittest.TestCase):
    def check_places(self, places):
        for text, at in places.items():
            with self.subTest(text[-60:]):
                self.assertEqual(caught(BadText, read_row, text).at, at)

    def test_texts_that_end_too_early(self):
        for text in ("", "~", "<", "<a", "<abcdefgh", "(", "(-", "(.", "(.a", "(-)", "(-)*", ".a ", ". ", "(-)*1 ", "(. ",
                     "((-)*1", "(.a ~b <c", "(~", "(<"):
            with self.subTest(text):
                self.assertEqual(caught(BadText, read_row, text).at, len(text))

    def test_signs_that_cannot_begin_a_row(self):
        for sign in SIGNS:
            if sign not in ".~<(-":
                for behind in ("", ".a", " ", "\n"):
                    self.assertEqual(place(sign + behind), 0)
                    self.assertEqual(place("(" + sign + behind), 1)
                    self.assertEqual(place(".a " + sign + behind), 3)

    def test_blanks(self):
        self.check_places({" ": 0, " .a": 0, ".a  .b": 3, ".a .b ": 6, "( .)*1": 1, "(. )*1": 3, "(.) *1": 3, "(.)* 1": 4,
                           "< a>": 1, "<a >": 2, ".a\n.b": 2, ".a\n": 2, "\n": 0, "~ b": 1, "(.)*1  .": 6, "(-) *1": 3})

    def test_none(self):
        self.check_places({"--": 1, "- ": 1, "- .a": 1, "-.a": 1, ".a -": 3, "(- .)*1": 2, "(--)*1": 2, "(. -)*1": 3,
                           "-)": 1, "-\n": 1})

    def test_calls_and_turns(self):
        self.check_places({".a1": 2, ".a.b": 2, ".a~b": 2, "~.": 1, "~~": 1, "~1": 1, ".aB(": 3, ".<": 1, "~a<b>": 2,
                           ".a_": 2, ".@": 1, ".[": 1, ".`": 1, ".{": 1, "~@": 1, "~{": 1})

    def test_names(self):
        self.check_places({"<>": 1, "<A>": 1, "<aB>": 2, "<a1>": 2, "<a b>": 2, "<a.>": 2, "<a>b": 3, "<a><b>": 3, ">": 0,
                           "a": 0, "<<a>>": 1, "<a": 2, "<a>>": 3, "<`": 1, "<{": 1})

    def test_groups(self):
        self.check_places({"()*1": 1, "(.": 2, "(.)": 3, "(.)1": 3, "(.)*": 4, "(.)*a": 4, "(.)*-1": 4, "(.)*+1": 4, ")": 0,
                           "(.))*1": 3, "(.)*1)": 5, ".)": 1, ".a)*1": 2, "(.)*1.": 5, "(.)*1(": 5, "(.)*1a": 5, "(.)**1": 4,
                           "(.)*1*2": 5, "((.)*2)": 7, "(.)(.)": 3, "(.)*1\n": 5})

    def test_needless_noughts(self):
        self.check_places({"(.)*00": 5, "(.)*01": 5, "(.)*012 .a": 5, "(.)*0 .a (-)*07": 14, "((-)*00)*1": 6})
        self.assertIsNone(place("(.)*0"))
        self.assertIsNone(place("(.)*100"))

    def test_numbers_that_grow_too_great(self):
        for figures in ("1000000000000000000000000000001", "2000000000000000000000000000000",
                        "1100000000000000000000000000000", "9999999999999999999999999999999"):
            self.assertEqual(len(figures), 31)
            self.check_places({"(.)*" + figures: 34, "(.)*" + figures + "0": 34, "(.)*" + figures + "x": 34,
                               ".a ((.)*" + figures + ")*1": 38})
        self.check_places({"(.)*1" + "0" * 31: 35, "(.)*" + "9" * 3990: 34, "(.)*1" + "0" * 30 + "x": 35})
        self.assertIsNone(place("(.)*1" + "0" * 30))
        self.assertIsNone(place("(.)*" + "9" * 30))

    def test_thirteenth_letter(self):
        twelve = "abcdefghijkl"
        self.check_places({"." + twelve + "m": 13, "~" + twelve + "m": 13, ".a ." + twelve + "M .b": 16,
                           "(~" + twelve + "aa)*1": 14, "." + "a" * 3999: 13, "." + twelve + "1": 13})
        self.assertIsNone(place("." + twelve + " ~" + twelve))

    def test_ninth_letter(self):
        self.check_places({"<abcdefghi>": 9, "<abcdefghi": 9, ".a <abcdefghij>": 12, "<" + "a" * 3999: 9, "<abcdefghI": 9})
        self.assertIsNone(place("<abcdefgh>"))

    def test_one_step_too_many(self):
        sixty = " ".join(["."] * 60)
        self.assertIsNone(place(sixty))
        for first in (".", "~a", "<a>", "(-)*1", "-", "x", " "):
            self.check_places({sixty + " " + first: 120})
        # A blank may stand behind the sixtieth step as far as [11] tells: it is the step that can't.
        self.check_places({sixty + " ": 120, sixty + "\n": 119, sixty + ")": 119})

    def test_one_step_too_many_with_groups(self):
        self.assertIsNone(place("(" + " ".join(["."] * 59) + ")*1"))
        self.check_places({"(" + " ".join(["."] * 60) + ")*1": 119, "(" + " ".join(["."] * 59) + ")*1 .a": 122})
        self.assertIsNone(place(". " * 59 + "(-)*1"))
        self.check_places({". " * 59 + "(.)*1": 119, ". " * 59 + "((-)*1)*1": 119, ". " * 59 + "()*1": 119})

    def test_one_group_too_deep(self):
        self.assertIsNone(place("(" * 12 + "-" + ")*1" * 12))
        self.check_places({"(" * 13 + "-" + ")*1" * 13: 12, "(" * 13: 12, "(" * 4000: 12, "(" * 12 + ". (-)*1": 14})
        # A group that is shut lets another one begin.
        self.assertIsNone(place("(" * 12 + "-)*1 (-)*2" + ")*1" * 11))
        self.check_places({"(" * 12 + "-)*1 ((": 18})

    def test_signs_put_in_taken_out_or_exchanged(self):
        chance = random.Random(5)
        for text in [*WRITTEN, "(.aB (<go> ~c)*20 -)*3", "((.)*1 <a>)*305 .b", "~aB <xyz> (-)*0 .", "(((.a)*2)*3)*4"]:
            for at in range(len(text) + 1):
                signs = ["", *".~<>()*- 0123aZz\n", chance.choice(SIGNS)]
                for sign in signs:
                    self.check_place(text[:at] + sign + text[at:])
                    self.check_place(text[:at] + sign + text[at + 1:])

    def check_place(self, text):
        self.assertEqual(place(text), wanted_place(text), text)

    def test_short_texts_by_chance(self):
        chance = random.Random(6)
        for _ in range(6000):
            self.check_place("".join(chance.choices("..~<>((()))**-- 01aB", k=chance.randint(1, 9))))

    def test_read_is_just_what_is_written(self):
        chance = random.Random(7)
        for _ in range(4000):
            text = "".join(chance.choices(".~<>()*- 1a", k=chance.randint(1, 7)))
            if place(text) is None:
                self.assertEqual(row_text(read_row(text)), text)


class Copies(unittest.TestCase):
    def test_told_rows_are_tuples_throughout(self):
        def check(thing):
            self.assertIn(type(thing), (tuple, str, int))
            if isinstance(thing, tuple):
                for one in thing:
                    check(one)

        check(read_row("(.a ((-)*2 ~b <go>)*3)*4 ."))

    def test_asked_again_the_same_is_told(self):
        text = "(.a ((-)*2 ~b <go>)*3)*4 ."
        self.assertRaises(BadText, read_row, text + "(")
        self.assertEqual(read_row(text), read_row(text))


if __name__ == "__main__":
    unittest.main()
