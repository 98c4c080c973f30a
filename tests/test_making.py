"""What rows do: [1], [7], [12] and the interface of nearcall/making.py."""

import itertools
import random
import unittest

import plain
from nearcall.errors import BadPart, BadRoom, BadTree, BadTurn, Empty, NoRow, Ring, TooMany
from nearcall.halls import Hall
from nearcall.making import MOST_DONE, MOST_LISTED, many_done, spelled, table_of, walked
from nearcall.rows import read_row
from nearcall.tables import Table, of_call, of_turn, parting, still
from plain import caught

TWELVE = "abcdefghijkl"
GREAT = 10 ** 30
NO_ROWS = (None, True, 0, "", "-", (), ("call", "a"), ["steps", ()], ("steps", []), ("steps", (("call", "1"),)),
           ("steps", (("times", True, ("steps", ())),)), ("steps", (("times", GREAT + 1, ("steps", ())),)),
           ("steps", (("call", "a"),) * 61))


def hall():
    return Hall("abc", ["aB"])


def book_of(**texts):
    return {name: read_row(text) for name, text in texts.items()}


def table(text, place=None, **texts):
    return table_of(hall() if place is None else place, read_row(text), book=book_of(**texts))


def many(text, **texts):
    return many_done(read_row(text), book=book_of(**texts))


def listed(text, most=MOST_LISTED, **texts):
    return spelled(read_row(text), book=book_of(**texts), most=most)


def each_asked(text, **texts):
    """The four ways to ask about a row."""
    tree, book = read_row(text), book_of(**texts)
    return (lambda: table_of(hall(), tree, book=book), lambda: walked(hall(), tree, "abc", book=book),
            lambda: many_done(tree, book=book), lambda: spelled(tree, book=book))


class Bounds(unittest.TestCase):
    def test_numbers(self):
        self.assertEqual((MOST_DONE, MOST_LISTED), (10 ** 60, 400))
        self.assertIs(type(MOST_DONE), int)
        self.assertIs(type(MOST_LISTED), int)


class Ordinary(unittest.TestCase):
    def test_row_of_none(self):
        self.assertEqual(table("-"), still(hall()))
        self.assertEqual(walked(hall(), read_row("-"), "Abc"), "Abc")
        self.assertEqual(many("-"), 0)
        self.assertEqual(listed("-"), [])

    def test_one_step(self):
        self.assertEqual(table(".a"), of_call(hall(), "a"))
        self.assertEqual(table("."), still(hall()))
        self.assertEqual(table("~BAC"), of_turn(hall(), "BAC"))
        self.assertEqual((many(".a"), many("."), many("~BAC")), (1, 1, 1))
        self.assertEqual(listed("."), [("call", "")])

    def test_steps_from_left_to_right(self):
        self.assertEqual(str(table(".a ~BAC")), "=A =B C")
        self.assertEqual(str(table("~BAC .a")), "=a =b C")
        self.assertEqual(walked(hall(), read_row(".a ~BAC"), "Abc"), "ABC")
        self.assertEqual(listed(".a ~BAC .c"), [("call", "a"), ("turn", "BAC"), ("call", "c")])

    def test_groups(self):
        self.assertEqual(table("(~BAC .c)*2"), table("~BAC .c ~BAC .c"))
        self.assertEqual(listed("(.a (~BAC)*2)*2"), [("call", "a"), ("turn", "BAC"), ("turn", "BAC")] * 2)
        self.assertEqual(many("(.a (~BAC)*2)*5 .b"), 16)

    def test_groups_of_no_times(self):
        self.assertEqual(table("(.a ~BAC)*0"), still(hall()))
        self.assertEqual(many("(.a ~BAC)*0"), 0)
        self.assertEqual(listed("(.a ~BAC)*0 .b"), [("call", "b")])

    def test_names(self):
        self.assertEqual(table("<go> .c", go=".a ~BAC"), table(".a ~BAC .c"))
        self.assertEqual(many("<go> <go> .c", go=".a ~BAC"), 5)
        self.assertEqual(listed("(<go>)*2 <go>", go=".a <on>", on=".c"), [("call", "a"), ("call", "c")] * 3)

    def test_a_name_that_stands_often(self):
        self.assertEqual(many("<go> (<go>)*3 <on>", go=".a .b", on="<go> <go>"), 12)
        self.assertEqual(table("<go> (<go>)*3 <on>", go="~BAC", on=".c <go>"), table(".c ~BAC"))
        self.assertEqual(table("<go> <go> <go>", go="~abC"), table("~abC"))

    def test_what_a_book_has_besides_is_not_looked_at(self):
        self.assertEqual(table(".a", bad=".ba", ring="<ring>", none="<gone>"), of_call(hall(), "a"))
        self.assertEqual(many(".a", ring="<ring>", none="<gone>"), 1)

    def test_without_a_book(self):
        tree = read_row(".a <go>")
        for asked in (lambda **book: table_of(hall(), tree, **book), lambda **book: walked(hall(), tree, "abc", **book),
                      lambda **book: many_done(tree, **book), lambda **book: spelled(tree, **book)):
            self.assertEqual(caught(NoRow, asked).name, "go")
            self.assertEqual(caught(NoRow, asked, book=None).name, "go")
            self.assertEqual(caught(NoRow, asked, book={}).name, "go")
        self.assertEqual(table_of(hall(), read_row(".a")), of_call(hall(), "a"))
        self.assertEqual(many_done(read_row(".a")), 1)
        self.assertEqual(spelled(read_row(".a")), [("call", "a")])

    def test_by_name(self):
        tree = read_row("<go>")
        book = book_of(go=".a")
        self.assertEqual(table_of(book=book, tree=tree, hall=hall()), of_call(hall(), "a"))
        self.assertEqual(walked(room="ABC", book=book, tree=tree, hall=hall()), "abC")
        self.assertEqual(many_done(book=book, tree=tree), 1)
        self.assertEqual(spelled(most=1, book=book, tree=tree), [("call", "a")])

    def test_what_stands_behind_a_star_is_handed_in_by_name_alone(self):
        tree = read_row("-")
        self.assertRaises(TypeError, table_of, hall(), tree, {})
        self.assertRaises(TypeError, walked, hall(), tree, "abc", {})
        self.assertRaises(TypeError, many_done, tree, {})
        self.assertRaises(TypeError, spelled, tree, {})
        self.assertRaises(TypeError, spelled, tree, {}, 400)

    def test_table_of_tells_a_table(self):
        self.assertIsInstance(table("-"), Table)
        self.assertEqual(table(".a").hall(), hall())


class GreatNumbers(unittest.TestCase):
    def test_groups_within_one_another(self):
        place = Hall("abc")
        deep = "(" * 12 + "~bcA" + f")*{GREAT}" * 12
        # bcA comes round behind 6 times.
        wanted = of_turn(place, "bcA").times(pow(GREAT, 12, 6))
        self.assertEqual(table(deep, place), wanted)
        self.assertNotEqual(wanted, still(place))
        self.assertEqual(walked(place, read_row(deep), "aBC"), wanted.led("aBC"))

    def test_groups_within_one_another_beside_calls(self):
        place = Hall("abc")
        row = f"((~bcA .a)*{GREAT} ~bca)*{GREAT} ((.B)*{GREAT - 1} ~CAb)*0"
        once = table("~bcA .a", place).times(GREAT).then(of_turn(place, "bca"))
        self.assertEqual(table(row, place), once.times(GREAT))

    def test_rows_that_name_one_another(self):
        place = Hall("abc")
        names = ["".join(letters) for letters in itertools.product("abcde", repeat=4)]
        book = {one: read_row(f"(<{two}> <{two}>)*{GREAT} ~bcA <{two}>") for one, two in itertools.pairwise(names)}
        book[names[-1]] = read_row("~bcA")
        turns = 1
        for _ in names[1:]:
            turns = 2 * turns * GREAT + 1 + turns
        self.assertEqual(table_of(place, read_row("<aaaa>"), book=book), of_turn(place, "bcA").times(turns % 6))
        self.assertEqual(caught(TooMany, many_done, read_row("<aaaa>"), book=book).most, 10 ** 60)

    def test_names_far_within_one_another(self):
        names = ["".join(letters) for letters in itertools.product("abcdefgh", repeat=4)]
        book = {one: read_row("(((((<" + two + ">)*1)*1)*1)*1)*1 .b") for one, two in itertools.pairwise(names)}
        book[names[-1]] = read_row(".a")
        self.assertEqual(table_of(hall(), read_row("<aaaa>"), book=book), table(".a .b"))
        self.assertEqual(many_done(read_row("<aaaa>"), book=book), 4096)
        self.assertEqual(caught(TooMany, spelled, read_row("<aaaa>"), book=book).most, 400)
        book[names[300]] = read_row("<aaaa>")
        self.assertEqual(caught(Ring, table_of, hall(), read_row("<aaab>"), book=book).name, "aaab")
        book[names[300]] = read_row("~BAC")
        self.assertEqual(spelled(read_row("<aaaa>"), book=book), [("turn", "BAC")] + [("call", "b")] * 300)

    def test_names_that_double_again_and_again(self):
        book = {letter: read_row(f"<{later}> <{later}>") for letter, later in itertools.pairwise("abcdefghijklmnopqrst")}
        book["t"] = read_row("~bcA")
        self.assertEqual(many_done(read_row("<a>"), book=book), 2 ** 19)
        self.assertEqual(table_of(Hall("abc"), read_row("<a>"), book=book), of_turn(Hall("abc"), "bcA").times(2 ** 19))
        self.assertEqual(caught(TooMany, spelled, read_row("<a>"), book=book).most, 400)

    def test_twelve_walls(self):
        place = Hall(TWELVE)
        row = f"((~bcdefghijklA)*{GREAT} .cF)*{GREAT}"
        once = of_turn(place, "bcdefghijklA").times(GREAT % 24).then(of_call(place, "cF"))
        self.assertEqual(table(row, place), once.times(GREAT))


class Refused(unittest.TestCase):
    def test_bad_trees(self):
        for at, tree in enumerate(NO_ROWS):
            with self.subTest(at):
                self.assertRaises(BadTree, table_of, hall(), tree)
                self.assertRaises(BadTree, walked, hall(), tree, "abc")
                self.assertRaises(BadTree, many_done, tree)
                self.assertRaises(BadTree, spelled, tree)

    def test_bad_tree_goes_first(self):
        # Ahead of the part and the name that stand to its left, and of the room.
        tree = ("steps", (("call", "ba"), ("row", "gone"), ("call", "1")))
        self.assertRaises(BadTree, table_of, hall(), tree)
        self.assertRaises(BadTree, walked, hall(), tree, "?")
        self.assertRaises(BadTree, many_done, tree)
        self.assertRaises(BadTree, spelled, tree, most=0)

    def test_bad_rooms(self):
        for room in ("", "ab", "aBc", "abcd", "bac", "abc\n", "a" * 4000):
            self.assertRaises(BadRoom, walked, hall(), read_row("-"), room)

    def test_bad_room_goes_ahead_of_what_is_met_in_the_row(self):
        for text in (".ba", ".aB", "~bac", "<gone>", "<ring>"):
            self.assertRaises(BadRoom, walked, hall(), read_row(text), "aBc", book=book_of(ring="<ring>"))

    def test_of_steps(self):
        self.assertRaises(BadPart, table, ".ba")
        self.assertRaises(BadPart, table, ".d")
        self.assertEqual(caught(Empty, table, ".aB").wall, "a")
        self.assertEqual(caught(Empty, table, ".abD", Hall("abcd", ["bC", "cD"])).wall, "b")
        self.assertRaises(BadTurn, table, "~bac")
        self.assertRaises(BadTurn, table, "~ab")
        for text, kind in ((".ba", BadPart), (".aB", Empty), ("~bac", BadTurn)):
            self.assertRaises(kind, walked, hall(), read_row(text), "abc")

    def test_counting_asks_no_hall(self):
        self.assertEqual(many(".ba .aB ~bac .zzz"), 4)
        self.assertEqual(listed(".ba ~bac"), [("call", "ba"), ("turn", "bac")])

    def test_no_row(self):
        for asked in each_asked(".a <go> <on>", on="-"):
            self.assertEqual(caught(NoRow, asked).name, "go")
        for asked in each_asked(".a <on> <go>", on=".b <inner>"):
            self.assertEqual(caught(NoRow, asked).name, "inner")

    def test_ring(self):
        for asked in each_asked("<a>", a="<a>"):
            self.assertEqual(caught(Ring, asked).name, "a")
        for asked in each_asked("<a>", a=".a <b>", b="(<c>)*2", c="<b>"):
            self.assertEqual(caught(Ring, asked).name, "b")
        for asked in each_asked("<b> <a>", a="<b>", b="<a>"):
            self.assertEqual(caught(Ring, asked).name, "b")

    def test_a_name_met_again_behind_its_row_is_no_ring(self):
        for asked in each_asked("<a> <b> <a> (<b>)*2", a=".a <b>", b=".b"):
            asked()

    def test_groups_are_reckoned_once_however_few_their_times(self):
        for asked in each_asked("(<gone>)*0"):
            self.assertEqual(caught(NoRow, asked).name, "gone")
        for asked in each_asked("(<a>)*0", a="(<a>)*0"):
            self.assertEqual(caught(Ring, asked).name, "a")
        self.assertRaises(BadPart, table, "((.ba)*5)*0")
        self.assertEqual(caught(Empty, table, "(.aB)*0").wall, "a")
        self.assertRaises(BadTurn, table, "(~bac)*0")

    def test_the_first_that_is_met(self):
        wrong = {".ba": BadPart, ".aB": Empty, "~bac": BadTurn, "<gone>": NoRow, "<ring>": Ring}
        for one, two in itertools.permutations(wrong, 2):
            for text in (f"{one} {two}", f".a {one} .b {two}", f"(.a {one})*0 {two}", f"<first> {two}",
                         f"((-)*1 (<first>)*0)*{GREAT} {two}", f"(.a (.b)*3 {one} {two})*2", f"<never> {one} {two}"):
                with self.subTest(text):
                    asked = each_asked(text, first=f".a {one}", never="-", ring=".c <ring>")
                    self.assertRaises(wrong[one], asked[0])
                    self.assertRaises(wrong[one], asked[1])

    def test_a_named_row_is_reckoned_where_its_name_stands(self):
        self.assertRaises(BadTurn, table, ".a ~bac <on>", on=".ba")
        self.assertRaises(BadPart, table, ".a <on> ~bac", on=".ba")

    def test_steps_of_a_ring_are_reckoned_until_it_is_met(self):
        self.assertRaises(BadPart, table, "<a>", a=".ba <a>")
        self.assertEqual(caught(Ring, table, "<a>", a="<a> .ba").name, "a")


class TooMuch(unittest.TestCase):
    def check_too_many(self, text, **texts):
        for asked in (many, listed):
            self.assertEqual(caught(TooMany, asked, text, **texts).most, 10 ** 60)

    def test_many_done_up_to_the_bound(self):
        full = f"((.a)*{GREAT})*{GREAT}"
        self.assertEqual(many(full), 10 ** 60)
        self.assertEqual(many(full + " (-)*5 (.b)*0"), 10 ** 60)
        self.assertEqual(caught(TooMany, listed, full).most, 400)
        self.assertEqual(many(f"((.a)*{GREAT})*{GREAT - 1} (.a)*{GREAT}"), 10 ** 60)

    def test_more_than_the_bound(self):
        full = f"((.a)*{GREAT})*{GREAT}"
        self.check_too_many(f"{full} .b")
        self.check_too_many(f".b {full}")
        self.check_too_many(f"({full})*2")
        self.check_too_many(f"((.a .b)*{GREAT})*{GREAT}")
        self.check_too_many("<go> .", go=full)
        self.check_too_many("<go> <go>", go=full)
        self.check_too_many("<go> <on>", go=full, on=".a")

    def test_within_a_groups_own_row_however_few_its_times(self):
        full = f"((.a)*{GREAT})*{GREAT}"
        self.check_too_many(f"({full} .b)*0")
        self.check_too_many(f"(({full})*2)*0")
        self.check_too_many("(<go>)*0", go=f"{full} .b")
        self.assertEqual(many(f"({full})*0"), 0)
        self.assertEqual(many(f"({full})*0 ({full})*0 {full}"), 10 ** 60)
        self.assertEqual(many(f"({full})*0 (<go>)*0 <go>", go=full), 10 ** 60)

    def test_each_row_counts_for_itself(self):
        # So much is done within the group, and not yet in the row around it.
        full = f"((.a)*{GREAT})*{GREAT}"
        self.assertEqual(many(f".b ({full})*0"), 1)
        self.assertEqual(caught(NoRow, many, f".b ({full} <gone>)*1").name, "gone")
        self.assertEqual(caught(NoRow, many, ".b <go>", go=f"{full} <gone>").name, "gone")
        self.check_too_many(".b <go> <gone>", go=full)

    def test_whichever_is_met_first(self):
        full = f"((.a)*{GREAT})*{GREAT}"
        self.check_too_many(f"{full} .b <gone>")
        self.check_too_many(f"({full} .b <gone>)*0")
        self.check_too_many(f"{full} .b <a>", a="<a>")
        self.check_too_many("<a>", a=f"{full} .b <a>")
        self.assertEqual(caught(NoRow, many, f"{full} <gone> .b").name, "gone")
        self.assertEqual(caught(NoRow, many, f"({full} (<gone>)*0 .b)*2").name, "gone")
        self.assertEqual(caught(Ring, many, f"{full} <a> .b", a="<a>").name, "a")

    def test_a_table_has_no_such_bound(self):
        full = f"((~BAC)*{GREAT})*{GREAT}"
        self.assertEqual(table(f"{full} ~abC"), table("~abC"))
        self.assertEqual(walked(hall(), read_row(f"(({full})*{GREAT} ~abC)*3"), "abc"), "abC")


class Spelled(unittest.TestCase):
    def test_most(self):
        self.assertEqual(len(listed("(.a)*400")), 400)
        self.assertEqual(caught(TooMany, listed, "(.a)*401").most, 400)
        self.assertEqual(listed("(.a ~b)*2", 4), [("call", "a"), ("turn", "b")] * 2)
        self.assertEqual(caught(TooMany, listed, "(.a ~b)*2", 3).most, 3)
        self.assertEqual(listed("-", 0), [])
        self.assertEqual(caught(TooMany, listed, ".", 0).most, 0)
        self.assertEqual(caught(TooMany, spelled, read_row("(.)*401")).most, 400)

    def test_most_comes_last(self):
        self.assertEqual(caught(NoRow, listed, "(.a)*401 <gone>").name, "gone")
        self.assertEqual(caught(Ring, listed, "(.a)*401 <a>", 0, a="<a>").name, "a")
        self.assertEqual(caught(TooMany, listed, f"((.a)*{GREAT} .b)*{GREAT}", 5).most, 10 ** 60)
        self.assertRaises(BadTree, spelled, (), most=0)

    def test_groups_that_do_nothing_very_often(self):
        self.assertEqual(listed(f"(-)*{GREAT}"), [])
        self.assertEqual(listed(f"((-)*{GREAT} (.a)*0)*{GREAT} .b"), [("call", "b")])
        self.assertEqual(listed(f"(<none>)*{GREAT} <none>", none=f"(-)*{GREAT}"), [])
        self.assertEqual(many(f"((-)*{GREAT} (.a)*0)*{GREAT}"), 0)
        self.assertEqual(listed(f"(-)*{GREAT}", 0), [])

    def test_much_within_groups_of_no_times(self):
        self.assertEqual(listed(f"((.a)*{GREAT} .b)*0 .c"), [("call", "c")])
        self.assertEqual(listed(f"(((~b .a)*{GREAT})*{10 ** 29})*0", 0), [])
        self.assertEqual(listed("(<go>)*0 .c", 1, go=f"((.a)*{GREAT} .b)*{GREAT - 1}"), [("call", "c")])

    def test_long_rows_around_the_bound(self):
        for many_times in (1, 2, 3, 7, 19, 20, 21, 133, 134, 200, 399, 400):
            for steps in (1, 2, 3, 20):
                row = f"({' '.join(['.a'] * steps)})*{many_times} .b"
                wanted = [("call", "a")] * (steps * many_times) + [("call", "b")]
                if len(wanted) <= 400:
                    self.assertEqual(listed(row), wanted)
                    self.assertEqual(listed(row, len(wanted)), wanted)
                    self.assertEqual(caught(TooMany, listed, row, len(wanted) - 1).most, len(wanted) - 1)
                else:
                    self.assertEqual(caught(TooMany, listed, row).most, 400)

    def test_steps_are_calls_and_turns_alone(self):
        told = listed("(<go> (.)*2)*3 ~b", go="(~c)*2")
        self.assertIs(type(told), list)
        self.assertEqual(told, [("turn", "c"), ("turn", "c"), ("call", ""), ("call", "")] * 3 + [("turn", "b")])


class AgainstTheDocument(unittest.TestCase):
    def some_row(self, steps, names, chance, deep=0):
        found = []
        for _ in range(chance.randint(0, 4)):
            kind = chance.random()
            if kind < 0.2 and names:
                found.append(("row", chance.choice(names)))
            elif kind < 0.4 and deep < 3:
                found.append(("times", chance.randint(0, 3), self.some_row(steps, names, chance, deep + 1)))
            else:
                found.append(chance.choice(steps))
        return ("steps", tuple(found))

    def some_book(self, steps, chance):
        """Rows each of which names none but later ones."""
        return {name: self.some_row(steps, "abc"[at + 1:], chance) for at, name in enumerate("abc")}

    def test_rows_by_their_steps_one_by_one(self):
        chance = random.Random(21)
        for walls, bars in plain.turning_halls() + [pair for pair in plain.small_halls() if len(pair[0]) < 5]:
            steps = plain.some_steps(walls, bars, 6, chance)
            for _ in range(12):
                book = self.some_book(steps, chance)
                self.check_row(walls, bars, self.some_row(steps, "abc", chance), book)

    def check_row(self, walls, bars, tree, book):
        done = list(plain.one_by_one(tree, book))
        self.assertEqual(many_done(tree, book=book), len(done))
        if len(done) > 60:
            return
        self.assertEqual(spelled(tree, book=book), done)
        place, leads = Hall(walls, bars), {}
        for room in plain.rooms(walls, bars):
            leads[room] = room
            for step in done:
                leads[room] = plain.stepped(walls, bars, step, leads[room])
            self.assertEqual(walked(place, tree, room, book=book), leads[room])
        # The one table that leads so: two rows that lead every room alike have the same.
        self.assertEqual(table_of(place, tree, book=book).entries(), plain.entries_of(walls, leads))

    def test_two_rows_that_lead_alike(self):
        place = Hall("abc", ["aB"])
        for one, two in ((".a .b", ".a"), (".ab", ".a"), ("~BAC ~BAC", "-"), (".c .C", ".C"), (".a ~BAC", "~BAC .B"),
                         (".", "(.a)*0"), ("(~abC)*7", "~abC"), (".b .a .B", ".B")):
            self.assertEqual(table(one), table(two))
            self.assertIsNone(parting(table(one), table(two)))
        for one, two in ((".a .B", ".B .a"), ("~BAC", "~BAc"), (".b", ".a"), ("-", ".c")):
            self.assertNotEqual(table(one), table(two))
            first = [room for room in place.rooms() if table(one).led(room) != table(two).led(room)][0]
            self.assertEqual(parting(table(one), table(two)), first)


class Copies(unittest.TestCase):
    def test_what_is_handed_in_is_not_changed(self):
        book = book_of(a=".a <b>", b="~BAC")
        before, tree = dict(book), read_row("(<a> .b)*3 <b>")
        table_of(hall(), tree, book=book)
        walked(hall(), tree, "abc", book=book)
        many_done(tree, book=book)
        spelled(tree, book=book)
        self.assertRaises(NoRow, many_done, read_row("<a> <gone>"), book=book)
        self.assertRaises(Ring, many_done, read_row("<c>"), book={**book, "c": read_row("<c>")})
        self.assertEqual(book, before)
        self.assertEqual(list(book), list(before))

    def test_nothing_is_kept(self):
        book = book_of(a=".a")
        tree = read_row("<a>")
        told = table_of(hall(), tree, book=book)
        book["a"] = read_row("~BAC ~BAC .c")
        self.assertEqual(told, of_call(hall(), "a"))
        self.assertEqual(table_of(hall(), tree, book=book), of_call(hall(), "c"))
        self.assertEqual(many_done(tree, book=book), 3)
        del book["a"]
        self.assertRaises(NoRow, table_of, hall(), tree, book=book)

    def test_lists_are_the_askers_own(self):
        book = book_of(a=".a .b")
        for text in ("<a>", "(<a>)*1", ".a", "-", "(-)*3"):
            tree = read_row(text)
            told = spelled(tree, book=book)
            before = list(told)
            told.append(("call", "x"))
            told[0] = ("turn", "y")
            self.assertEqual(spelled(tree, book=book), before)

    def test_after_a_refusal_the_same_is_told(self):
        book = book_of(a=".a <b>", b="-")
        self.assertRaises(BadPart, table_of, hall(), read_row("<a> .ba"), book=book)
        self.assertRaises(TooMany, spelled, read_row("<a>"), book=book, most=0)
        self.assertEqual(table_of(hall(), read_row("<a>"), book=book), of_call(hall(), "a"))


if __name__ == "__main__":
    unittest.main()
