"""Calls in some order: [13], [14] and the interface of nearcall/orders.py."""

import itertools
import random
import unittest

import plain
from nearcall.errors import BadOrder, BadPart, BadRoom, Empty, TooMany
from nearcall.halls import Hall
from nearcall.orders import ends, held_up, last_words, may_end, surely
from plain import caught, told_again

TWELVE = "abcdefghijkl"


def hall():
    return Hall("abc", ["aB"])


def samples():
    """Walls, bars, calls and pairs of some small halls, with up to five calls."""
    chance = random.Random(14)
    halls = [("a", ()), ("bx", ("bX",)), *plain.some_halls("abc", 6, 21), *plain.some_halls("cmxz", 4, 22)]
    for walls, bars in halls:
        for many, count in ((0, 0), (1, 0), (2, 0), (2, 1), (3, 0), (3, 2), (4, 1), (4, 3), (4, 6), (5, 2), (5, 4)):
            yield walls, bars, plain.some_calls(walls, bars, many, chance), plain.some_pairs(many, count, chance)


def all_asked(calls, pairs, room="abc", goal="abc"):
    return {
        "last_words": lambda: last_words(hall(), calls, pairs),
        "surely": lambda: surely(hall(), calls, pairs, room),
        "may_end": lambda: may_end(hall(), calls, pairs, room, goal),
        "held_up": lambda: held_up(hall(), calls, pairs, goal),
        "ends": lambda: ends(hall(), calls, pairs, room),
    }


class Ordinary(unittest.TestCase):
    def test_last_words(self):
        self.assertEqual(last_words(hall(), ["a", "b", "C"], []), [(0,), (0, 1), (2,)])
        self.assertEqual(last_words(hall(), ["a", "b", "C"], [(0, 1)]), [(0,), (1,), (2,)])
        self.assertEqual(last_words(hall(), ["c", "", "C"], [(0, 1)]), [(), (), (0, 2)])
        self.assertEqual(last_words(hall(), [], []), [(), (), ()])

    def test_an_order_by_way_of_another_call(self):
        self.assertEqual(last_words(hall(), ["c", "", "C"], [(0, 1), (1, 2)]), [(), (), (2,)])
        self.assertEqual(surely(hall(), ["c", "", "C"], [(1, 2), (0, 1)], "abc"), "abC")

    def test_surely(self):
        self.assertIsNone(surely(hall(), ["c", "C"], [], "abc"))
        self.assertEqual(surely(hall(), ["c", "C"], [(1, 0)], "abC"), "abc")
        self.assertEqual(surely(hall(), ["a", "b", "c"], [], "ABC"), "abc")
        self.assertEqual(surely(hall(), [], [], "ABC"), "ABC")

    def test_may_end(self):
        self.assertEqual(may_end(hall(), ["c", "C"], [], "abc", "abc"), [1, 0])
        self.assertEqual(may_end(hall(), ["c", "C"], [], "abc", "abC"), [0, 1])
        self.assertIsNone(may_end(hall(), ["c", "C"], [(0, 1)], "abc", "abc"))
        self.assertIsNone(may_end(hall(), ["c", "C"], [], "Abc", "abc"))
        self.assertEqual(may_end(hall(), [], [], "abc", "abc"), [])
        self.assertIsNone(may_end(hall(), [], [], "abc", "Abc"))

    def test_held_up(self):
        self.assertEqual(held_up(hall(), ["c", "C"], [(0, 1)], "abc"), [0, 1])
        self.assertEqual(held_up(hall(), ["c", "C"], [(1, 0)], "abc"), [])
        self.assertEqual(held_up(hall(), ["c", "C"], [], "abc"), [])
        # Not looked at: from which room one comes.
        self.assertEqual(held_up(hall(), ["c"], [], "ABc"), [])
        self.assertEqual(held_up(hall(), ["a", "c", "A"], [(0, 1)], "Abc"), [])
        self.assertEqual(held_up(hall(), ["a", "c", "A"], [(2, 1), (2, 0)], "Abc"), [0, 2])

    def test_ends(self):
        self.assertEqual(ends(hall(), ["c", "C"], [], "abc"), ["abC", "abc"])
        self.assertEqual(ends(hall(), ["c", "C"], [(0, 1)], "abc"), ["abC"])
        self.assertEqual(ends(hall(), [], [], "abc"), ["abc"])


class AgainstAllOrders(unittest.TestCase):
    def test_last_words(self):
        for walls, bars, calls, pairs in samples():
            texts = [plain.shut_text(walls, bars, part).lower() for part in calls]
            last = [set() for _ in walls]
            for order in plain.kept_orders(len(calls), pairs):
                for at, wall in enumerate(walls):
                    last[at].update([place for place in order if wall in texts[place]][-1:])
            told = last_words(Hall(walls, bars), calls, pairs)
            self.assertEqual(told, [tuple(sorted(places)) for places in last])

    def test_ends_surely_and_may_end(self):
        for walls, bars, calls, pairs in samples():
            place, moves = Hall(walls, bars), plain.leads(walls, bars, calls)
            orders = plain.kept_orders(len(calls), pairs)
            for room in place.rooms():
                wanted = sorted({plain.one_behind_another(moves, order, room) for order in orders})
                self.assertEqual(ends(place, calls, pairs, room), wanted)
                self.assertEqual(surely(place, calls, pairs, room), wanted[0] if len(wanted) == 1 else None)
                for goal in place.rooms():
                    order = may_end(place, calls, pairs, room, goal)
                    self.assertEqual(order is not None, goal in wanted)
                    if order is not None:
                        self.assertIs(type(order), list)
                        self.assertIn(tuple(order), orders)
                        self.assertEqual(plain.one_behind_another(moves, order, room), goal)

    def test_held_up(self):
        for walls, bars, calls, pairs in samples():
            texts = [plain.shut_text(walls, bars, part) for part in calls]
            for goal in plain.rooms(walls, bars):
                self.assertEqual(held_up(Hall(walls, bars), calls, pairs, goal), self.left_by_hand(texts, pairs, goal))

    def left_by_hand(self, texts, pairs, goal):
        left, written = list(range(len(texts))), set()
        while True:
            # None left must follow just where none of the pairs with places that are left begins with it:
            # what must follow by way of others does so by way of one that is taken only later.
            free = [place for place in left if not any(one == place and two in left for one, two in pairs)]
            good = [place for place in free
                    if all(side in goal for side in texts[place] if side.lower() not in written)]
            if not good:
                return left
            left.remove(good[0])
            written |= set(texts[good[0]].lower())


class EightCalls(unittest.TestCase):
    def test_letters_one_by_one(self):
        place = Hall("abcd")
        calls = ["a", "A", "b", "B", "c", "C", "d", "D"]
        self.assertEqual(ends(place, calls, [], "abcd"), place.rooms())
        self.assertEqual(len(last_words(place, calls, [])), 4)
        self.assertIsNone(surely(place, calls, [], "abcd"))
        for goal in place.rooms():
            order = may_end(place, calls, [], "abcd", goal)
            self.assertEqual(sorted(order), list(range(8)))
            self.assertEqual(held_up(place, calls, [], goal), [])

    def test_one_behind_the_other(self):
        calls = ["a", "A", "b", "B", "c", "C", "ac", "BC"]
        pairs = list(itertools.pairwise(range(8)))
        self.assertEqual(surely(hall(), calls, pairs, "abc"), "ABC")
        self.assertEqual(ends(hall(), calls, pairs, "abc"), ["ABC"])
        self.assertEqual(may_end(hall(), calls, pairs, "abc", "ABC"), list(range(8)))
        self.assertEqual(held_up(hall(), calls, pairs, "abc"), list(range(8)))
        self.assertEqual(last_words(hall(), calls, pairs), [(7,), (7,), (7,)])

    def test_twelve_walls(self):
        place = Hall(TWELVE)
        chance = random.Random(6)
        calls = ["".join(chance.choice(("", wall, wall.upper())) for wall in TWELVE) for _ in range(8)]
        pairs = [(0, 1), (5, 2)]
        found = ends(place, calls, pairs, TWELVE)
        # Without bars a call writes just its own sides.
        wanted = set()
        for order in plain.kept_orders(8, pairs):
            sides = {side.lower(): side for side in TWELVE + "".join(calls[at] for at in order)}
            wanted.add("".join(sides[wall] for wall in TWELVE))
        self.assertGreater(len(found), 10)
        self.assertEqual(found, sorted(wanted))
        for goal in found:
            order = may_end(place, calls, pairs, TWELVE, goal)
            self.assertTrue(order.index(0) < order.index(1) and order.index(5) < order.index(2))


class Refused(unittest.TestCase):
    def test_nine_calls(self):
        for calls in (["a"] * 9, ["ba"] * 9, ["aB"] + ["a"] * 8, ["a"] * 400):
            for name, ask in all_asked(calls, [(0, 0)], "?", "?").items():
                with self.subTest(name):
                    self.assertEqual(caught(TooMany, ask).most, 8)

    def test_eight_calls_are_let_by(self):
        for ask in all_asked(["a"] * 8, [(7, 0)]).values():
            ask()

    def test_bad_and_empty_parts(self):
        for name, ask in all_asked(["a", "ba", "aB"], [(0, 0)], "?", "?").items():
            with self.subTest(name):
                self.assertRaises(BadPart, ask)
        for name, ask in all_asked(["a", "aB", "ba"], [(0, 0)], "?", "?").items():
            with self.subTest(name):
                self.assertEqual(caught(Empty, ask).wall, "a")

    def check_order(self, pairs, at, calls=("a", "b", "c", "C")):
        for name, ask in all_asked(calls, pairs, "?", "?").items():
            with self.subTest(name):
                self.assertEqual(caught(BadOrder, ask).at, at)

    def test_pairs_of_no_places(self):
        for pair in ((-1, 0), (0, -1), (4, 0), (0, 4), (10 ** 39, 1), (1, -10 ** 39), (-4, -3), (True, 0), (2, False)):
            self.check_order([pair], 0)
            self.check_order([(0, 1), (0, 1), (1, 2), pair, (0, 0)], 3)

    def test_pairs_of_more_or_fewer_things(self):
        for pair in ((), (0,), (0, 1, 2), [0, 1, 1]):
            self.check_order([(0, 1), pair], 1)

    def test_pairs_of_a_place_and_itself(self):
        self.check_order([(2, 2)], 0)
        self.check_order([(0, 1), (1, 1)], 1)
        self.check_order([(-1, -1)], 0)

    def test_pairs_without_calls(self):
        self.check_order([(0, 1)], 0, [])
        self.check_order([(0, 0)], 0, [])
        self.check_order([(0, 1)], 0, ["a"])

    def test_rings(self):
        self.check_order([(0, 1), (1, 0)], 1)
        self.check_order([(0, 1), (1, 2), (2, 0)], 2)
        self.check_order([(2, 3), (0, 1), (1, 2), (1, 3), (0, 3), (3, 0), (3, 3)], 5)
        self.check_order([(1, 2), (0, 1), (3, 0), (2, 3)], 3)

    def test_all_rings_of_four_places(self):
        every = list(itertools.permutations(range(4), 2))
        chance = random.Random(12)
        for _ in range(300):
            pairs = [chance.choice(every) for _ in range(5)]
            at = next((at for at in range(5) if not plain.kept_orders(4, pairs[:at + 1])), None)
            if at is None:
                self.assertEqual(len(last_words(hall(), ["a", "b", "c", "C"], pairs)), 3)
            else:
                self.assertEqual(caught(BadOrder, last_words, hall(), ["a", "b", "c", "C"], pairs).at, at)

    def test_a_pair_told_again(self):
        self.assertEqual(ends(hall(), ["c", "C"], [(0, 1)] * 400, "abc"), ["abC"])
        self.assertEqual(may_end(hall(), ["c", "C", ""], [(0, 1), (1, 2), (0, 2), (0, 1)], "abc", "abC"), [0, 1, 2])

    def test_bad_rooms_last(self):
        for bad in ("", "ab", "aBc", "abcd", "abd"):
            for name in ("surely", "may_end", "ends"):
                self.assertRaises(BadRoom, all_asked(["a"], [], bad, "abc")[name])
            for name in ("may_end", "held_up"):
                self.assertRaises(BadRoom, all_asked(["a"], [], "abc", bad)[name])


class HandedInAndTold(unittest.TestCase):
    def test_told_is_the_askers_own(self):
        for ask in all_asked(["a", "c", "C", ""], [(0, 3)], "ABC", "abC").values():
            told_again(ask)

    def test_handed_in_is_not_changed(self):
        calls, pairs = ["a", "c", "C"], [[0, 1], [1, 2], [0, 1]]
        for ask in all_asked(calls, pairs).values():
            ask()
        self.assertEqual((calls, pairs), (["a", "c", "C"], [[0, 1], [1, 2], [0, 1]]))

    def test_lists_and_tuples_in_one_anothers_place(self):
        lists = all_asked(["a", "c", "C"], [[0, 1], [1, 2]], "ABC", "abC")
        tuples = all_asked(("a", "c", "C"), ((0, 1), (1, 2)), "ABC", "abC")
        for name, ask in lists.items():
            self.assertEqual(ask(), tuples[name]())

    def test_by_name(self):
        self.assertEqual(last_words(pairs=[], calls=["c"], hall=hall()), [(), (), (0,)])
        self.assertEqual(surely(room="abC", pairs=[], calls=["c"], hall=hall()), "abc")
        self.assertEqual(may_end(goal="abc", room="abC", pairs=[], calls=["c"], hall=hall()), [0])
        self.assertEqual(held_up(goal="abC", pairs=[], calls=["c"], hall=hall()), [0])
        self.assertEqual(ends(room="abC", pairs=[], calls=["c"], hall=hall()), ["abc"])


if __name__ == "__main__":
    unittest.main()
