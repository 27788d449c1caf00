"""[22]: going through STATES, and going on; [8]: the order of deeds."""

import random
import unittest

from tests import reckon, support
from wellstrewn import deadends
from wellstrewn.errors import TooMany

START = ((), (), ())
TINY = reckon.tiny_pairs(150, 50, 9)
TINY += [(book, shuffle) for book in support.SMALL_BOOKS for shuffle in support.all_shuffles(book)[::3]]
PAIRS = support.books_with_shuffles(40, 51)


def yard(chests):
    """A book of one region with so many chests, and its SHUFFLE."""
    return ((("w", (("yard", chests, None),), ()),), ()), (("straw",),) * chests


def crossroads(one, other):
    """A book with one key for two locks, and a SHUFFLE: behind the first one lies the key for the second one."""
    keep = (((None, None, 1), (0, "lock", one), (0, "lock", other)), 2)
    book = ((("w", (("home", 0, keep),), ()),), ())
    return book, (("key",), ("key",)) + (("straw",),) * (one + other - 1)


def chain(chests):
    """A book of regions with so many chests, and its SHUFFLE: in each one lies what leads to the next."""
    regions = tuple([("r%d" % r, many, None) for r, many in enumerate(chests)])
    arrows = tuple([(r, r + 1, (r,)) for r in range(len(chests) - 1)])
    things = tuple([("t%d" % r, 0) for r in range(len(chests) - 1)])
    rows = [(("thing", r),) + (("straw",),) * (many - 1) for r, many in enumerate(chests[:-1])]
    shuffle = tuple([content for row in rows for content in row]) + (("straw",),) * chests[-1]
    return ((("w", regions, arrows),), things), shuffle


class Shortest(support.SameAgain, unittest.TestCase):

    def check(self, book, shuffle, many):
        play = self.answer(deadends.shortest_dead_end, book, shuffle)
        if many is None:
            self.assertIsNone(play)
            return
        self.assertEqual((type(play), len(play)), (tuple, many))
        state = START
        for deed in play:
            self.assertIn(deed, reckon.deeds(book, shuffle, state))
            state = reckon.after(state, deed)
        self.assertTrue(reckon.is_stuck(book, shuffle, state))

    def test_as_short_as_can_be(self):
        seen = set()
        for book, shuffle in TINY:
            many = reckon.stuck_behind(book, shuffle, False)
            seen.add(many)
            self.check(book, shuffle, many)
        self.assertTrue({None, 0, 1, 2, 3, 4} <= seen)

    def test_leaves_lead_to_no_shorter_one(self):
        for book, shuffle in TINY[::5]:
            with_leaves = reckon.stuck_behind(book, shuffle, True)
            self.assertEqual(with_leaves is None, deadends.shortest_dead_end(book, shuffle) is None)

    def check_too_many(self, book, shuffle):
        with self.assertRaises(TooMany) as caught:
            self.answer(deadends.shortest_dead_end, book, shuffle)
        self.assertEqual(repr(caught.exception.most), "20000")

    def test_fourteen_places_and_no_more(self):
        # All LOTS of chests are STATES: 16384 of 14 chests, 32768 of 15.
        self.check(*yard(14), None)
        self.check_too_many(*yard(15))

    def test_fourteen_places_and_locked_ways(self):
        hall = (((None, None, 4), (0, "lock", 4), (0, "lock", 4)), 2)
        book = ((("w", (("home", 0, hall),), ()),), ())
        straw, key = ("straw",), ("key",)
        self.check(book, (key, key) + (straw,) * 10, None)
        # All 4 chests of the first room, the lock that leads to no key, and 4 chests behind it.
        self.check(book, (key,) + (straw,) * 7 + (key,) + (straw,) * 3, 9)

    def test_many_places_that_are_not_come_to(self):
        book = ((("w", (("home", 2, None), ("peak", 40, None)), ()),), ())
        self.check(book, (("straw",),) * 42, 2)

    def test_a_dead_end_ahead_of_too_many(self):
        # The dead end lies 2 or 3 DEEDS off, and behind the other lock there are far more STATES than 20,000.
        self.check(*crossroads(50, 0), 2)
        self.check(*crossroads(50, 1), 3)

    def test_a_dead_end_among_too_many(self):
        # All STATES with 6 DEEDS, the one of the dead end among them, are more than 20,000.
        self.check(*crossroads(40, 3), 5)
        self.check_too_many(*crossroads(40, 4))

    def test_just_twenty_thousand(self):
        # 2 ** 3 STATES of the last region; 2 ** (chests - 1) times one more than these are of it and the one ahead.
        self.check(*chain((6, 5, 2, 2, 3)), None)
        self.check_too_many(*chain((1, 6, 5, 2, 2, 3)))


class GoingOn(support.SameAgain, unittest.TestCase):

    def states(self, seed):
        rng = random.Random(seed)
        found = []
        for book, shuffle in PAIRS + TINY[::6]:
            play = reckon.some_play(rng, book, shuffle, 0.1, rng.randint(0, 9))
            state = START
            for deed in play:
                state = reckon.after(state, deed)
            found += [(book, shuffle, START), (book, shuffle, state)]
            found += [(book, shuffle, reckon.some_state(rng, book)) for _ in range(2)]
        return found

    def gone_on(self, book, shuffle, state, pick, most=9999):
        found = []
        deeds = reckon.deeds(book, shuffle, state)
        while deeds and len(found) < most:
            found.append(deeds[pick(len(found), len(deeds))])
            state = reckon.after(state, found[-1])
            deeds = reckon.deeds(book, shuffle, state)
        return tuple(found)

    def test_finish_and_hasty(self):
        for book, shuffle, state in self.states(52):
            right = self.gone_on(book, shuffle, state, lambda k, n: 0)
            self.assertEqual(self.answer(deadends.finish, book, shuffle, state), right)
            right = self.gone_on(book, shuffle, state, lambda k, n: n - 1)
            self.assertEqual(self.answer(deadends.hasty, book, shuffle, state), right)

    def test_foolish(self):
        rng = random.Random(53)
        for book, shuffle, state in self.states(53):
            for many in (0, 1, 3, 200):
                choices = [rng.choice((0, 1, 2, 7, 99, 10 ** 30)) for _ in range(many)]
                right = self.gone_on(book, shuffle, state, lambda k, n: choices[k] % n, many)
                for row in (choices, tuple(choices)):
                    self.assertEqual(self.answer(deadends.foolish, book, shuffle, state, row), right)

    def test_nothing_is_left_to_do(self):
        for book, shuffle in TINY:
            state = ((), (), tuple(range(len(book[0]))))
            found = [deadends.finish(book, shuffle, state), deadends.hasty(book, shuffle, state),
                     deadends.foolish(book, shuffle, state, (0, 1)), deadends.left_open(book, shuffle, state)]
            self.assertEqual(found, [(), (), (), ((), ())])

    def test_left_open(self):
        gone = set()
        for book, shuffle, state in self.states(54):
            right = reckon.left_open(book, shuffle, state)
            self.assertEqual(self.answer(deadends.left_open, book, shuffle, state), right)
            gone.add((state[2] != (), right[0] != (), right[1] != ()))
        self.assertEqual(len(gone), 8)

    def test_left_open_of_players_who_are_not_gone(self):
        keep = (((None, None, 0), (0, "lock", 0)), 0)
        world = (("home", 0, keep), ("peak", 0, keep))
        book = ((("n", world, ()), ("s", world, ())), ())
        for gone, players in [((), (0, 1)), ((0,), (1,)), ((1,), (0,)), ((0, 1), ())]:
            halls = tuple([(w, r, v) for w in players for r, v in ((0, 1), (1, 0), (1, 1))])
            found = self.answer(deadends.left_open, book, (), ((), (), gone))
            self.assertEqual(found, (tuple([(w, 1) for w in players]), halls))


class OrderOfDeeds(unittest.TestCase):
    """[8]."""

    def test_whatever_is_done_of_good_shuffles(self):
        rng = random.Random(55)
        good = [pair for pair in TINY if reckon.stuck_behind(*pair, False) is None]
        self.assertGreater(len(good), 60)
        for book, shuffle in good:
            locks = [room for dungeon in reckon.dungeons(book).values() for room in dungeon[0] if room[1] == "lock"]
            for leaving in (0, 0, 0.2, 0.6):
                state = START
                for deed in reckon.some_play(rng, book, shuffle, leaving, rng.randint(0, 12)):
                    state = reckon.after(state, deed)
                for choices in ([0] * 99, [99] * 99, [rng.randrange(99) for _ in range(99)]):
                    self.check(book, shuffle, state, choices, len(shuffle) + len(locks))

    def check(self, book, shuffle, state, choices, most):
        play = deadends.foolish(book, shuffle, state, choices)
        done = len(state[0]) + len(state[1])
        for deed in play:
            state = reckon.after(state, deed)
        self.assertLessEqual(done + len(play), most)
        self.assertEqual(reckon.deeds(book, shuffle, state), ())
        self.assertEqual(reckon.left_open(book, shuffle, state), ((), ()))
        self.assertEqual(reckon.held(book, shuffle, state), tuple(range(len(book[1]))))


if __name__ == "__main__":
    unittest.main()
