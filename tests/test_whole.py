"""The whole program: [1], [2] and that all that the interface lists is there under its name."""

import importlib
import inspect
import itertools
import unittest

import plain
from nearcall.crowd import Crowd
from nearcall.desk import Desk
from nearcall.halls import Hall
from nearcall.logs import Log
from nearcall.lost import stories
from nearcall.making import many_done, table_of
from nearcall.pages import page, read_page
from nearcall.parts import near
from nearcall.rows import read_row
from nearcall.steering import behind_calls, come_to
from nearcall.tables import parting

GREAT = 10 ** 30

VALUES = {
    "halls": {"WIDEST": 12}, "rows": {"MOST_STEPS": 60, "MOST_DEEP": 12, "MOST_TIMES": GREAT},
    "making": {"MOST_DONE": 10 ** 60, "MOST_LISTED": 400}, "steering": {"MOST_CALLS": 12}, "lost": {"MOST_SENT": 24},
    "state": {"MOST_WALKERS": 8, "MOST_ROWS": 8},
}

FUNCTIONS = {
    "halls": "other(side) chain(walls,bars,one,two)",
    "parts": "is_empty(hall,part) shut(hall,part) near(hall,part,room) has(hall,part,room) rooms_of(hall,part) "
             "first_room(hall,part)",
    "turns": "is_turn(hall,turn) still_turn(hall) turned(hall,turn,room) over(hall,turn,part) turn_behind(hall,one,two) "
             "back_turn(hall,turn) round_of(hall,turn)",
    "tables": "still(hall) of_call(hall,part) of_turn(hall,turn) parting(one,two)",
    "rows": "is_row(tree) row_text(tree) read_row(text)",
    "making": "table_of(hall,tree,*,book=None) walked(hall,tree,room,*,book=None) many_done(tree,*,book=None) "
              "spelled(tree,*,book=None,most=400)",
    "steering": "from_behind(hall,calls,goal) steer(hall,calls,room,goal) barred_by(hall,calls,goal) "
                "blind(hall,calls,goal) gather(hall,calls) lean(hall,calls) come_to(hall,calls,room,*,most=256) "
                "behind_calls(hall,calls,places,room) steer_turning(hall,calls,turns,room,goal)",
    "orders": "last_words(hall,calls,pairs) surely(hall,calls,pairs,room) may_end(hall,calls,pairs,room,goal) "
              "held_up(hall,calls,pairs,goal) ends(hall,calls,pairs,room)",
    "lost": "fewest_lost(hall,calls,room,goal) told_of(hall,calls,room,goal) stories(hall,calls,room,goal) "
            "ends_within(hall,calls,room,*,most) surely_there(hall,calls,room,goal,*,most) hardened(calls,many)",
    "pages": "page(crowd) read_page(text)",
}

CLASSES = {
    ("halls", "Hall"): "__init__(self,walls,bars=()) walls(self) bars(self) forced(self,side) forces(self,one,two) "
                       "is_room(self,room) rooms(self) doors(self,room) steps(self,room,goal) way(self,room,goal)",
    ("tables", "Table"): "__init__(self,hall,entries) hall(self) entries(self) led(self,room) then(self,later) "
                         "times(self,many) fixed(self)",
    ("logs", "Log"): "__init__(self,hall,room) call(self,part) seen(self,room) back(self) fewest(self) words(self) "
                     "choices(self) maybe(self) twin(self)",
    ("crowd", "Crowd"): "__init__(self,hall) do(self,deed) all_of(self,deeds) come(self,name,room) go(self,name) "
                        "tell(self,name,tree) untell(self,name) lead(self,tree,*,names=()) bar(self,bar) unbar(self,bar) "
                        "put(self,wall,*,bars=()) merge(self,wall) strike(self,at) undo(self) redo(self) hall(self) "
                        "names(self) where(self,name) blame(self,name) who(self,room) rows(self) row(self,name) "
                        "table(self,name) kept(self) made(self) steps_done(self) left(self) busy(self) twin(self)",
    ("desk", "Desk"): "__init__(self,crowd) say(self,line) crowd(self)",
}

SIGNS = {("halls", "Hall"): ("__eq__", "__len__", "__str__", "__repr__"),
         ("tables", "Table"): ("__eq__", "__len__", "__str__", "__repr__"),
         ("logs", "Log"): ("__eq__", "__len__", "__str__"), ("crowd", "Crowd"): ("__eq__", "__len__", "__repr__")}


def module(name):
    return importlib.import_module("nearcall." + name)


def written(name, thing):
    """A function's name and arguments, as above."""
    return name + str(inspect.signature(thing)).replace(" ", "")


class Interface(unittest.TestCase):
    def test_values(self):
        for name, values in VALUES.items():
            for key, value in values.items():
                self.assertEqual(getattr(module(name), key), value)
                self.assertIs(type(getattr(module(name), key)), int)

    def test_functions(self):
        for name, listed in FUNCTIONS.items():
            for text in listed.split(" "):
                called = text.split("(")[0]
                self.assertEqual(written(called, getattr(module(name), called)), text)

    def test_classes(self):
        for (name, kind), listed in CLASSES.items():
            methods = vars(getattr(module(name), kind))
            for text in listed.split(" "):
                called = text.split("(")[0]
                self.assertIn(called, methods)
                self.assertEqual(written(called, methods[called]), text)

    def test_signs(self):
        for (name, kind), signs in SIGNS.items():
            for sign in signs:
                self.assertIn(sign, vars(getattr(module(name), kind)))


class RowsHoweverLong(unittest.TestCase):
    """[1]: rows of rows of rows, far longer than could be walked."""

    def test_a_crowd_behind_a_very_long_row(self):
        made = Crowd(Hall("abcd", ["aB"]))
        made.come("ann", "ABCD")
        made.come("bob", "abcd")
        for name, later in itertools.pairwise("abcdefgh"):
            made.tell(name, read_row(f"((<{later}>)*{GREAT} ~BAdC .c)*{GREAT - 1}"))
        made.tell("h", read_row("~BAdC .D"))
        table = made.table("a")
        self.assertEqual(table, table_of(made.hall(), read_row("<a>"), book={name: made.row(name) for name in "abcdefgh"}))
        rooms = {name: table.led(made.where(name)) for name in made.names()}
        made.lead(read_row("<a>"))
        self.assertEqual({name: made.where(name) for name in made.names()}, rooms)
        self.assertEqual(made.blame("ann"), tuple(10 if entry[0] == "=" else -1 for entry in table.entries()))

    def test_short_rows_stand_for_long_ones(self):
        place = Hall("abc", ["aB"])
        once = read_row("~BAC .c")
        for many in (0, 1, 2, 3, 7):
            again = ("steps", (("times", many, once),))
            steps = list(plain.one_by_one(again, {}))
            table = table_of(place, again)
            for room in place.rooms():
                stood = room
                for step in steps:
                    stood = plain.stepped("abc", ["aB"], step, stood)
                self.assertEqual(table.led(room), stood)
            # The turn takes itself back, so an even number of times more makes no difference.
            if many:
                later = ("steps", (("times", many + 10 ** 29, once),))
                self.assertIsNone(parting(table, table_of(place, later)))
                self.assertEqual(many_done(later), 2 * (many + 10 ** 29))


class AllTogether(unittest.TestCase):
    """One hall, asked by all parts of the program."""

    def test_calls_lead_alike_everywhere(self):
        for walls, bars in plain.some_halls("abcd", 8, 77):
            place = Hall(walls, bars)
            for part in plain.roomy_parts(walls, bars):
                for room in place.rooms():
                    goal = near(place, part, room)
                    self.assertEqual(behind_calls(place, [part], [0], room), goal)
                    self.assertEqual(set(come_to(place, [part], room)), {room, goal})
                    self.assertEqual(stories(place, [part], room, goal), 1 + (room == goal))
                    log = Log(place, room)
                    log.call(part)
                    self.assertEqual(set(log.maybe()), {room, goal})
                    desk = Desk(read_page(f"hall {place}\nwalker ann {room}\n"))
                    self.assertEqual((desk.say("lead ." + part), desk.say("where ann")), ("done", goal))
                    self.assertEqual(page(desk.crowd()), f"hall {place}\nwalker ann {goal}\n")

    def test_tables_of_a_hall_that_has_changed(self):
        made = Crowd(Hall("abc", ["aB"]))
        made.tell("go", read_row(".a"))
        ahead = made.table("go")
        hall = made.hall()
        made.unbar("aB")
        # What was told stays as it was.
        self.assertEqual((ahead.hall(), str(ahead)), (hall, "=a =b c"))
        self.assertEqual(str(hall), "abc aB")
        self.assertEqual(str(made.table("go")), "=a b c")


if __name__ == "__main__":
    unittest.main()
