"""[19]: NET TABLES."""

import random
import unittest

from tests import support
from tests.test_parts import CHAIN, PLAIN, STAR, TREE, cases, right_parts
from wellstrewn import nets

# The room of the big key hangs on the bar that it opens, or on one behind that, or on none.
BARS = (((None, None, 1), (0, "bar", 1), (1, "open", 1), (1, "bar", 1), (0, "lock", 2), (4, "bar", 0)), 3)
OPEN = (((None, None, 1), (0, "open", 1), (1, "open", 1), (0, "open", 0)), 2)
ONE = (((None, None, 3),), 1)


def net_by_hand(dungeon, laid, rooms):
    return sum([laid[1][v] for v in rooms]) - len([v for v in rooms if dungeon[0][v][1] == "lock"])


def branch_by_hand(dungeon, v):
    found = {v}
    for u, room in enumerate(dungeon[0]):
        if room[0] in found:
            found.add(u)
    return found


def stumps(dungeon, laid, v):
    """All STUMPS of a room, each with whether it is PLAIN, and whether it is OPENED."""
    rooms, big = dungeon[0], laid[0]
    branch = branch_by_hand(dungeon, v)
    found = []
    for others in support.subsets(sorted(branch - {v})):
        lot = {v, *others}
        if not all([rooms[u][0] in lot for u in others]):
            continue
        lacking = [rooms[u][1] for u in branch - lot if rooms[u][0] in lot]
        if "open" not in lacking:
            plain = "bar" not in [rooms[u][1] for u in others] and big not in lot
            opened = "bar" not in lacking and (big in lot or big not in branch)
            found.append((lot, plain, opened and "bar" in [room[1] for room in rooms]))
    return found


def row_by_hand(dungeon, laid, v):
    whole = branch_by_hand(dungeon, v)
    found = [(lot, net_by_hand(dungeon, laid, lot), plain, opened) for lot, plain, opened in stumps(dungeon, laid, v)]
    columns = ([net for _, net, plain, _ in found if plain], [net for lot, net, plain, _ in found
                                                              if plain and lot != whole],
               [net for _, net, _, opened in found if opened], [net for lot, net, _, opened in found
                                                                if opened and lot != whole])
    return tuple([min(column, default=None) for column in columns])


def table_by_hand(dungeon, laid):
    return tuple([row_by_hand(dungeon, laid, v) for v in range(len(dungeon[0]))])


def least_by_hand(dungeon, laid):
    parts = [part for part in right_parts(dungeon, laid) if len(part) < len(dungeon[0])]
    return min([net_by_hand(dungeon, laid, part) for part in parts], default=None)


def hand_has_bar(dungeon, big):
    found = []
    while big is not None:
        found.append(dungeon[0][big][1])
        big = dungeon[0][big][0]
    return "bar" in found


def with_keys(laid, v, many):
    """A LAID with so many small keys more in a room."""
    return (laid[0], support.changed_at(laid[1], v, laid[1][v] + many))


def on_the_edge(dungeon, laid):
    """LAIDS with as many keys in the first room as are enough, one more and one less, each with its least NET."""
    least = least_by_hand(dungeon, laid)
    if least is None:
        return [(laid, None)]
    return [(with_keys(laid, 0, net - least), net) for net in (1, 2, 0) if laid[1][0] + net - least >= 0]


def further_cases(seed):
    """All DUNGEONS of the other tests, and those of here with the big key in each room."""
    rng = random.Random(seed)
    found = [(BARS, (big, tuple([rng.randint(0, 2) for _ in BARS[0]]))) for big in range(len(BARS[0])) for _ in "ab"]
    return found + [(OPEN, (None, (1, 0, 1, 0))), (ONE, (None, (1,))), (ONE, (None, (0,)))]


class Tables(support.SameAgain, unittest.TestCase):

    def test_net_tables(self):
        seen = set()
        for dungeon, laid in cases(31, 9) + further_cases(31):
            right = table_by_hand(dungeon, laid)
            self.assertEqual(repr(self.answer(nets.net_table, dungeon, laid)), repr(right), (dungeon, laid))
            seen.update([tuple([number is None for number in row]) for row in right])
        # All kinds of rows that there can be: (plain and less, opened and short) being none or not.
        self.assertTrue({(False, False, False, False), (True, True, False, False), (False, True, False, True),
                         (False, True, True, True), (False, False, True, True)} <= seen, seen)

    def test_net_tables_behind_those_of_another_laid(self):
        rng = random.Random(32)
        for dungeon, laid in cases(32, 6):
            other = (laid[0], tuple([rng.randint(0, 3) for _ in laid[1]]))
            first = table_by_hand(dungeon, laid)
            self.assertEqual(nets.net_table(dungeon, laid), first)
            self.assertEqual(nets.net_table(dungeon, other), table_by_hand(dungeon, other))
            self.assertEqual(nets.net_table(dungeon, laid), first)
            found = self.says(nets.is_net_table, dungeon, laid, nets.net_table(dungeon, other))
            self.assertIs(found, table_by_hand(dungeon, other) == first)

    def test_unbarred_ones_have_nothing_opened(self):
        for dungeon in (PLAIN, OPEN, ONE):
            laid = (None, (1,) * len(dungeon[0]))
            self.assertEqual([row[2:] for row in nets.net_table(dungeon, laid)], [(None, None)] * len(dungeon[0]))

    def test_by_hand(self):
        # A lock behind a lock: the keys behind both are none that the first one can be opened with.
        self.assertEqual(nets.net_table(PLAIN, (None, (0, 2, 3, 0))),
                         ((0, 0, None, None), (1, 1, None, None), (2, None, None, None), (0, None, None, None)))
        self.assertEqual(nets.net_table(CHAIN, (3, (2, 0, 0, 0))),
                         ((1, 1, 1, None), (-1, -1, -1, None), (None, None, 0, None), (None, None, 0, None)))
        self.assertEqual(nets.net_table(((((None, None, 1), (0, "bar", 1))), 0), (1, (0, 0))),
                         ((0, 0, 0, None), (None, None, 0, None)))


class IsNetTable(support.SameAgain, unittest.TestCase):

    def test_one_part_otherwise(self):
        for dungeon, laid in [(PLAIN, (None, (1, 0, 0, 1))), (STAR, (2, (1, 0, 0, 1, 0))), (STAR, (0, (2, 0, 1, 0, 0))),
                              (ONE, (None, (1,))), (BARS, (3, (1, 1, 0, 0, 1, 0)))]:
            right = table_by_hand(dungeon, laid)
            self.assertTrue(self.says(nets.is_net_table, dungeon, laid, right))
            for other in support.mutants(right):
                self.assertIs(self.says(nets.is_net_table, dungeon, laid, other), repr(other) == repr(right), other)

    def test_one_number_otherwise(self):
        for dungeon, laid in cases(33, 6)[::5]:
            right = table_by_hand(dungeon, laid)
            for v, row in enumerate(right):
                for k, number in enumerate(row):
                    others = [0, None, True, False] if number is None else [number + 1, number - 1, None, True, False]
                    for other in others + ["", (), (number,), [number]]:
                        table = support.changed_at(right, v, support.changed_at(row, k, other))
                        found = self.says(nets.is_net_table, dungeon, laid, table)
                        self.assertIs(found, repr(table) == repr(right))

    def test_rows_out_twice_exchanged_and_lists(self):
        for dungeon, laid in cases(34, 6)[::7]:
            right = table_by_hand(dungeon, laid)
            others = [right + right[-1:], right[:-1], right[1:], right[::-1], list(right), right + (None,),
                      tuple([list(row) for row in right]), right[1:2] + right[:1] + right[2:], (right,)]
            for other in others:
                self.assertIs(self.says(nets.is_net_table, dungeon, laid, other), repr(other) == repr(right))

    def test_truths_are_no_numbers(self):
        dungeon, laid = (((None, None, 1), (0, "lock", 0)), 1), (None, (1, 0))
        self.assertEqual(nets.net_table(dungeon, laid), ((0, 1, None, None), (-1, None, None, None)))
        for first in [(False, 1, None, None), (0, True, None, None), (0, 1, False, None), (0, 1, None, False)]:
            self.assertFalse(self.says(nets.is_net_table, dungeon, laid, (first, (-1, None, None, None))))

    def test_any_value(self):
        for dungeon, laid in [(PLAIN, (None, (1, 0, 0, 1))), (ONE, (None, (1,))), (TREE, (0, (1,) * 7))]:
            for value in support.STRANGE + (dungeon, laid, (None,) * 4, ((None,) * 4,), ((0,) * 4,) * 4):
                self.assertFalse(self.says(nets.is_net_table, dungeon, laid, value), value)


class Nets(support.SameAgain, unittest.TestCase):

    def check(self, dungeon, laid):
        right = least_by_hand(dungeon, laid)
        self.assertEqual(repr(self.answer(nets.least_net, dungeon, laid)), repr(right))
        part = self.answer(nets.worst_part, dungeon, laid)
        if right is None:
            self.assertIsNone(part)
        else:
            self.assertIn(part, [lot for lot in right_parts(dungeon, laid) if len(lot) < len(dungeon[0])])
            self.assertEqual(net_by_hand(dungeon, laid, part), right)
        good = not hand_has_bar(dungeon, laid[0]) and (right is None or right >= 1)
        self.assertIs(self.says(nets.are_keys_good, dungeon, laid), good)
        if not hand_has_bar(dungeon, laid[0]):
            self.check_locks(dungeon, laid, right is None or right >= 1)
        return good

    def check_locks(self, dungeon, laid, enough):
        locks = self.answer(nets.locks_to_nought, dungeon, laid)
        if enough:
            self.assertIsNone(locks)
            return
        self.assertIs(type(locks), tuple)
        self.assertEqual(len(set(locks)), len(locks))
        for k, v in enumerate(locks):
            come = self.walked(dungeon, laid, locks[:k])
            self.assertEqual(dungeon[0][v][1], "lock")
            self.assertIn(dungeon[0][v][0], come)
            self.assertGreaterEqual(net_by_hand(dungeon, laid, come), 1)
        come = self.walked(dungeon, laid, locks)
        self.assertEqual(net_by_hand(dungeon, laid, come), 0)
        self.assertLess(len(come), len(dungeon[0]))

    def walked(self, dungeon, laid, locks):
        """Goes on from room to room, the big key being taken where it lies."""
        come = {0}
        while True:
            more = {v for v, (parent, way, _) in enumerate(dungeon[0]) if parent in come
                    and (way == "open" or way == "lock" and v in locks or way == "bar" and laid[0] in come)}
            if more <= come:
                return come
            come |= more

    def test_as_many_keys_as_are_enough_one_more_and_one_less(self):
        seen = set()
        for dungeon, any_laid in cases(35, 9) + further_cases(35):
            for laid, net in on_the_edge(dungeon, any_laid):
                self.assertEqual(nets.least_net(dungeon, laid), net)
                seen.add((hand_has_bar(dungeon, laid[0]), self.check(dungeon, laid)))
        self.assertEqual(seen, {(True, False), (False, True), (False, False)})

    def test_keys_anywhere(self):
        for dungeon, laid in cases(36, 9) + further_cases(36):
            self.check(dungeon, laid)

    def test_one_room_and_open_ways(self):
        for dungeon, laid in [(ONE, (None, (0,))), (ONE, (None, (4,))), (OPEN, (None, (0, 0, 0, 0))),
                              (OPEN, (None, (0, 1, 0, 1)))]:
            self.assertIsNone(self.answer(nets.least_net, dungeon, laid))
            self.assertIsNone(self.answer(nets.worst_part, dungeon, laid))
            self.assertIsNone(self.answer(nets.locks_to_nought, dungeon, laid))
            self.assertIs(self.says(nets.are_keys_good, dungeon, laid), True)

    def test_no_part_lacks_a_room_where_the_big_key_lies_at_once(self):
        dungeon = (((None, None, 1), (0, "bar", 1), (1, "open", 0)), 0)
        for big, least, good in [(0, None, True), (1, 0, False), (2, 0, False)]:
            laid = (big, (0, 0, 0))
            found = [nets.least_net(dungeon, laid), nets.are_keys_good(dungeon, laid)]
            self.assertEqual(found, [least, good])

    def test_the_way_to_the_big_key_has_a_bar_though_keys_are_enough(self):
        laid = (3, (5, 5, 5, 5))
        self.assertEqual([nets.least_net(CHAIN, laid), nets.are_keys_good(CHAIN, laid)], [5, False])

    def test_locks_by_hand(self):
        # Both locks at the first room, one key: whichever is opened, the other one stays shut.
        star = (((None, None, 1), (0, "lock", 1), (0, "lock", 1), (2, "lock", 1)), 2)
        self.assertEqual(nets.locks_to_nought(star, (None, (1, 1, 0, 0))), (2,))
        self.assertEqual(nets.locks_to_nought(star, (None, (0, 3, 0, 0))), ())
        self.assertEqual(nets.locks_to_nought(star, (None, (2, 0, 0, 0))) in ((1, 2), (2, 1), (2, 3)), True)
        self.assertIsNone(nets.locks_to_nought(star, (None, (3, 0, 0, 0))))


if __name__ == "__main__":
    unittest.main()
