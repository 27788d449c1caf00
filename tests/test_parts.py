"""[18]: parts of dungeons."""

import random
import unittest

from tests import support
from wellstrewn import parts

CHAIN = (((None, None, 1), (0, "lock", 1), (1, "bar", 1), (2, "open", 1)), 2)
STAR = (((None, None, 2), (0, "lock", 1), (0, "lock", 1), (0, "bar", 0), (0, "open", 3)), 1)
TREE = (((None, None, 0), (0, "lock", 0), (0, "bar", 1), (1, "open", 1), (2, "lock", 1), (2, "bar", 1),
         (4, "open", 1)), 3)
PLAIN = (((None, None, 2), (0, "lock", 1), (1, "lock", 1), (0, "open", 2)), 2)


def some_laids(rng, dungeon):
    """LAIDS of a DUNGEON, the big key lying in each room once, if there is one."""
    rooms = dungeon[0]
    barred = "bar" in [way for _, way, _ in rooms]
    bigs = range(len(rooms)) if barred else [None]
    return [(big, tuple([rng.randint(0, 3) for _ in rooms])) for big in bigs]


def cases(seed, most):
    """DUNGEONS with a LAID each."""
    rng = random.Random(seed)
    found = [(dungeon, laid) for dungeon in (support.NOOK, support.KEEP, support.VAULT, CHAIN, STAR, TREE, PLAIN)
             for laid in some_laids(rng, dungeon)]
    for rooms in range(1, most + 1):
        for _ in range(4):
            dungeon = support.some_dungeon(rng, rooms)
            found += [(dungeon, laid) for laid in some_laids(rng, dungeon)]
    return found


def right_parts(dungeon, laid):
    """All LOTS of rooms gone through, by the definition of a PART, room by room."""
    found = []
    for lot in support.subsets(range(len(dungeon[0]))):
        good = 0 in lot
        for v, (parent, way, _) in enumerate(dungeon[0]):
            good = good and not (v > 0 and v in lot and parent not in lot)
            good = good and not (way == "open" and parent in lot and v not in lot)
            good = good and not (way == "bar" and laid[0] in lot and parent in lot and v not in lot)
            good = good and not (way == "bar" and laid[0] not in lot and v in lot)
        if good:
            found.append(lot)
    return sorted(found)


class Trees(support.SameAgain, unittest.TestCase):

    def hangs_on(self, dungeon, v, u):
        while v is not None and v != u:
            v = dungeon[0][v][0]
        return v == u

    def test_branches_and_ways(self):
        for dungeon, _ in cases(21, 10):
            rooms = range(len(dungeon[0]))
            for v in rooms:
                branch = tuple([u for u in rooms if self.hangs_on(dungeon, u, v)])
                self.assertEqual(self.answer(parts.branch_of, dungeon, v), branch)
                way = tuple([u for u in rooms if self.hangs_on(dungeon, v, u)])
                self.assertEqual(self.answer(parts.way_to, dungeon, v), way)
                self.assertIs(self.says(parts.way_has_bar, dungeon, v), "bar" in [dungeon[0][u][1] for u in way])

    def test_way_has_bar_of_none(self):
        for dungeon, _ in cases(22, 5):
            self.assertIs(parts.way_has_bar(dungeon, None), False)

    def test_rims(self):
        for dungeon, _ in cases(23, 7):
            for rooms in support.subsets(range(len(dungeon[0]))):
                rim = tuple([v for v in range(1, len(dungeon[0])) if v not in rooms and dungeon[0][v][0] in rooms])
                self.assertEqual(self.answer(parts.rim_of, dungeon, rooms), rim)

    def test_by_hand(self):
        branches = [parts.branch_of(TREE, v) for v in (1, 2, 6)]
        self.assertEqual(branches, [(1, 3), (2, 4, 5, 6), (6,)])
        self.assertEqual([parts.way_to(TREE, v) for v in (6, 0, 3)], [(0, 2, 4, 6), (0,), (0, 1, 3)])
        self.assertEqual([parts.way_has_bar(TREE, v) for v in (6, 3, 2)], [True, False, True])
        self.assertEqual([parts.rim_of(TREE, rooms) for rooms in ((), (0,), (2, 4))], [(), (1, 2), (5, 6)])


class Parts(support.SameAgain, unittest.TestCase):

    def test_all_parts(self):
        for dungeon, laid in cases(24, 10):
            found = self.answer(parts.all_parts, dungeon, laid)
            self.assertIs(type(found), list)
            self.assertEqual(found, right_parts(dungeon, laid))

    def test_what_is_returned_is_new(self):
        first = parts.all_parts(PLAIN, (None, (1, 0, 0, 1)))
        first.clear()
        self.assertEqual(parts.all_parts(PLAIN, (None, (1, 0, 0, 1))), [(0, 1, 2, 3), (0, 1, 3), (0, 3)])

    def test_is_part_of_all_lots(self):
        for dungeon, laid in cases(25, 9):
            right = right_parts(dungeon, laid)
            for lot in support.subsets(range(len(dungeon[0]))):
                self.assertIs(self.says(parts.is_part, dungeon, laid, lot), lot in right)

    def test_is_part_of_any_value(self):
        for dungeon, laid in cases(26, 6):
            right = [repr(part) for part in right_parts(dungeon, laid)]
            for part in right_parts(dungeon, laid)[:8]:
                for other in support.mutants(part):
                    self.assertIs(self.says(parts.is_part, dungeon, laid, other), repr(other) in right, other)
            for value in support.STRANGE + (dungeon, laid, (0, 0), (0, 2, 1), (0, 1, 1), (-1, 0), (0, 99), (0, "1"),
                                            (0, None)):
                self.assertIs(self.says(parts.is_part, dungeon, laid, value), repr(value) in right, value)

    def test_nets(self):
        for dungeon, laid in cases(27, 8):
            for part in right_parts(dungeon, laid):
                net = 0
                for v in part:
                    net += laid[1][v] - (1 if dungeon[0][v][1] == "lock" else 0)
                self.assertEqual(repr(self.answer(parts.net_of, dungeon, laid, part)), repr(net))

    def test_nets_below_0(self):
        dungeon = (((None, None, 0), (0, "lock", 0), (0, "lock", 0)), 0)
        self.assertEqual([parts.net_of(dungeon, (None, (0, 0, 0)), part) for part in ((0,), (0, 2), (0, 1, 2))],
                         [0, -1, -2])
        self.assertEqual(parts.net_of(dungeon, (None, (9, 0, 4)), (0, 2)), 12)

    def test_closed_parts(self):
        for dungeon, laid in cases(28, 8):
            right = right_parts(dungeon, laid)
            for rooms in support.subsets(range(len(dungeon[0]))):
                having = [set(part) for part in right if set(rooms) <= set(part)]
                least = tuple(sorted(set.intersection(*having)))
                found = self.answer(parts.closed_part, dungeon, laid, rooms)
                self.assertEqual(found, least)
                self.assertIn(found, right)

    def opened_by_hand(self, dungeon, laid, rooms):
        """Goes from room to room, as whoever comes first to the room of the big key takes it."""
        come = {0}
        for _ in dungeon[0]:
            for _ in dungeon[0]:
                for v, (parent, way, _) in enumerate(dungeon[0]):
                    if parent in come and (way == "open" or way == "lock" and v in rooms or way == "bar"
                                           and laid[0] in come):
                        come.add(v)
        return tuple(sorted(come))

    def test_opened_parts(self):
        for dungeon, laid in cases(29, 8):
            right = right_parts(dungeon, laid)
            locks = [v for v, room in enumerate(dungeon[0]) if room[1] == "lock"]
            for rooms in support.subsets(locks):
                found = self.answer(parts.opened_part, dungeon, laid, rooms)
                self.assertEqual(found, self.opened_by_hand(dungeon, laid, rooms))
                self.assertIn(found, right)

    def test_the_big_key_behind_its_own_bar(self):
        laid = (3, (1, 0, 0, 0))
        self.assertEqual(parts.all_parts(CHAIN, laid), [(0,), (0, 1), (0, 1, 2, 3)])
        self.assertEqual([parts.opened_part(CHAIN, laid, lot) for lot in ((), (1,))], [(0,), (0, 1)])
        self.assertEqual([parts.closed_part(CHAIN, laid, lot) for lot in ((), (1,), (2,), (3,))],
                         [(0,), (0, 1), (0, 1, 2, 3), (0, 1, 2, 3)])

    def test_the_big_key_opens_bars_that_were_come_to_ahead(self):
        laid = (3, (0, 1, 0, 0, 0, 0, 0))
        self.assertEqual([parts.opened_part(TREE, laid, lot) for lot in ((), (1,), (4,), (1, 4))],
                         [(0,), (0, 1, 2, 3, 5), (0,), (0, 1, 2, 3, 4, 5, 6)])


if __name__ == "__main__":
    unittest.main()
