"""[23], [5]: what breaks a SHUFFLE."""

import collections
import unittest

from tests import reckon, support
from tests.test_gathering import all_of, rounds_by_hand
from tests.test_nets import hand_has_bar, least_by_hand, net_by_hand
from tests.test_parts import right_parts
from wellstrewn import goodness, nets

STRAW, KEY, BIG = ("straw",), ("key",), ("big",)
TINY = reckon.tiny_pairs(400, 60, 9)
TINY += [(book, shuffle) for book in support.SMALL_BOOKS for shuffle in support.all_shuffles(book)]
PAIRS = support.books_with_shuffles(150, 61)

GATE = (((None, None, 1), (0, "bar", 1)), 0)
SAFE = (((None, None, 1), (0, "lock", 1)), 1)


def laid_by_hand(book, shuffle, spot):
    """The DUNGEON at a SPOT, and its LAID."""
    dungeon = reckon.dungeons(book)[spot]
    big, small = None, [0] * len(dungeon[0])
    for place, content in reckon.lying(book, shuffle).items():
        if place[:2] == spot and content == KEY:
            small[place[2]] += 1
        if place[:2] == spot and content == BIG:
            big = place[2]
    return dungeon, (big, tuple(small))


def fault_by_hand(book, shuffle):
    """The first fault, without the PART of a net."""
    reached = support.spots_with(book, all_of(rounds_by_hand(book, shuffle, ())))
    off = tuple([spot for spot in support.spots_in_order(book) if spot not in reached])
    if off:
        return ("regions", off)
    rows = [(spot, *laid_by_hand(book, shuffle, spot)) for spot in sorted(reckon.dungeons(book))]
    bars = [spot for spot, dungeon, laid in rows if hand_has_bar(dungeon, laid[0])]
    least = [(spot, least_by_hand(dungeon, laid)) for spot, dungeon, laid in rows]
    short = [spot for spot, net in least if net is not None and net < 1]
    if bars:
        return ("bar", bars[0])
    return ("net", short[0]) if short else None


class Faults(support.SameAgain, unittest.TestCase):

    def check(self, book, shuffle):
        right = fault_by_hand(book, shuffle)
        found = self.answer(goodness.fault_of, book, shuffle)
        self.assertIs(self.says(goodness.is_good, book, shuffle), right is None)
        if right is None or right[0] != "net":
            self.assertEqual(found, right)
            return right
        self.assertEqual((type(found), found[:2]), (tuple, right))
        dungeon, laid = laid_by_hand(book, shuffle, found[1])
        self.assertEqual(found[2], nets.worst_part(dungeon, laid))
        self.assertIn(found[2], right_parts(dungeon, laid))
        self.assertLess(len(found[2]), len(dungeon[0]))
        self.assertLess(net_by_hand(dungeon, laid, found[2]), 1)
        return right

    def test_each_answer(self):
        seen = collections.Counter()
        for book, shuffle in TINY + PAIRS:
            right = self.check(book, shuffle)
            seen[right and right[0]] += 1
        for word in (None, "regions", "bar", "net"):
            self.assertGreater(seen[word], 30, seen)

    def test_the_first_that_is_so(self):
        stuck = (((None, None, 1), (0, "lock", 1)), 1)
        regions = (("home", 1, None), ("keep", 0, stuck), ("gate", 0, GATE), ("peak", 1, None))
        for needs, lying, right in [((0,), (STRAW, STRAW, KEY, STRAW, BIG, ("thing", 0)), ("regions", ((0, 3),))),
                                    ((0,), (("thing", 0), STRAW, KEY, STRAW, BIG, STRAW), ("bar", (0, 2))),
                                    ((0,), (("thing", 0), STRAW, KEY, BIG, STRAW, STRAW), ("net", (0, 1), (0,))),
                                    ((0,), (("thing", 0), KEY, STRAW, BIG, STRAW, STRAW), None),
                                    ((), (STRAW, KEY, STRAW, BIG, STRAW, ("thing", 0)), None)]:
            book = ((("w", regions, ((0, 1, ()), (0, 2, ()), (0, 3, needs))),), (("hook", 0),))
            self.assertEqual(goodness.fault_of(book, lying), right)
            self.assertIs(goodness.is_good(book, lying), right is None)
            self.check(book, lying)

    def test_the_least_spot_where_several_are(self):
        arrows = ((0, 1, ()), (0, 2, ()))
        gates = (("a", 0, GATE), ("b", 0, GATE), ("c", 0, GATE))
        book = ((("n", gates, arrows), ("s", gates, arrows)), ())
        for wrong in support.subsets(range(6)):
            shuffle = tuple([content for k in range(6) for content in ((STRAW, BIG) if k in wrong else (BIG, STRAW))])
            right = ("bar", (wrong[0] // 3, wrong[0] % 3)) if wrong else None
            self.assertEqual(goodness.fault_of(book, shuffle), right)
        safes = (("a", 0, SAFE), ("b", 0, SAFE), ("c", 0, SAFE))
        book = ((("n", safes, arrows), ("s", safes, arrows)), ())
        for wrong in support.subsets(range(6)):
            shuffle = tuple([content for k in range(6) for content in ((STRAW, KEY) if k in wrong else (KEY, STRAW))])
            right = ("net", (wrong[0] // 3, wrong[0] % 3), (0,)) if wrong else None
            self.assertEqual(goodness.fault_of(book, shuffle), right)

    def test_all_spots_that_are_not_reached(self):
        regions = tuple([("r%d" % r, 1, None) for r in range(5)])
        world = (regions, ((0, 1, (0,)), (1, 2, ()), (0, 3, (1,)), (3, 4, (0, 1))))
        book = ((("n", *world), ("s", (("y", 0, None), ("z", 0, None)), ())), (("hook", 0), ("lamp", 0)))
        for lying, off in [((STRAW, ("thing", 0), ("thing", 1), STRAW, STRAW), (1, 2, 3, 4)),
                           ((("thing", 0), STRAW, STRAW, STRAW, ("thing", 1)), (3, 4)),
                           ((("thing", 0), STRAW, ("thing", 1), STRAW, STRAW), ())]:
            right = ("regions", tuple([(0, r) for r in off]) + ((1, 1),))
            self.assertEqual(goodness.fault_of(book, lying), right)

    def test_no_dungeon_and_no_thing(self):
        self.assertIsNone(goodness.fault_of(((("w", (("x", 0, None),), ()),), ()), ()))
        self.assertIs(goodness.is_good(((("w", (("x", 0, None),), ()),), ()), ()), True)


class NeverStuck(unittest.TestCase):

    def test_good_exactly_if_no_play_leads_to_a_dead_end(self):
        found = [0, 0]
        for book, shuffle in TINY:
            stuck = reckon.stuck_behind(book, shuffle, True)
            self.assertIs(goodness.is_good(book, shuffle), stuck is None, (book, shuffle))
            found[stuck is None] += 1
        self.assertGreater(min(found), 150)

    def test_with_three_players_and_leaves(self):
        # Each one's thing lies with the next: whoever leaves hands out what they have.
        regions = (("x", 1, None), ("y", 0, None))
        book = (tuple([(name, regions, ((0, 1, (w,)),)) for w, name in enumerate("abc")]),
                (("one", 0), ("two", 1), ("six", 2)))
        for order, good in [((1, 2, 0), True), ((2, 0, 1), True), ((0, 1, 2), True)]:
            shuffle = tuple([("thing", t) for t in order])
            self.assertIs(goodness.is_good(book, shuffle), good)
            self.assertIsNone(reckon.stuck_behind(book, shuffle, True))
        deep = (("x", 0, None), ("y", 1, None))
        book = (tuple([(name, deep, ((0, 1, (w,)),)) for w, name in enumerate("ab")]), (("one", 0), ("two", 1)))
        shuffle = (("thing", 1), ("thing", 0))
        self.assertIs(goodness.is_good(book, shuffle), False)
        self.assertEqual(reckon.stuck_behind(book, shuffle, True), 0)


if __name__ == "__main__":
    unittest.main()
