"""[28]: WAYS to lay things by SPOTS."""

import itertools
import math
import random
import unittest

from tests import support
from wellstrewn import thingtables

PLAIN = (("a", 0, None), ("b", 0, None), ("c", 0, None), ("d", 0, support.KEEP))
# Two worlds: t0 and t1 open the first one, t2 the second one; t3 and t4 are not ASKED.
BOOK = ((("one", PLAIN, ((0, 1, (0,)), (1, 2, (1,)), (0, 2, (0, 1)), (2, 3, ()), (3, 0, ()))),
         ("two", PLAIN[:2], ((0, 1, (2,)), (1, 0, (2,))))),
        (("t0", 0), ("t1", 0), ("t2", 1), ("t3", 1), ("t4", 0)))
NO_THINGS = ((("w", PLAIN[:2], ((0, 1, ()),)),), ())
SHUT = ((("w", PLAIN[:2], ()),), (("t0", 0),))


def asked_by_hand(book):
    return sorted({t for world in book[0] for arrow in world[2] for t in arrow[2]})


def gathered_by_hand(book, lying, things):
    """Of some things, those that are gathered from what () reaches, lying being a dict from them to SPOTS."""
    found = set()
    while True:
        reached = support.spots_with(book, found)
        more = {t for t in things if lying[t] in reached}
        if more == found:
            return found
        found = more


def ways(book, frame, things, spots):
    """All ways to lay those of some things that are not told into free chests of some SPOTS, as dicts to SPOTS."""
    free, told, _ = frame
    chests = [spot for spot, many in zip(support.spots_in_order(book), free) if spot in spots for _ in range(many)]
    loose = [t for t in things if told[t] is None]
    for chosen in itertools.permutations(range(len(chests)), len(loose)):
        lying = {t: told[t] for t in things if told[t] is not None}
        lying.update({t: chests[k] for t, k in zip(loose, chosen)})
        yield lying


def gathering_by_hand(book, frame):
    table = {}
    for lot in sorted(support.subsets(asked_by_hand(book))):
        spots = support.spots_with(book, lot)
        table[lot] = 0
        for lying in ways(book, frame, lot, spots):
            fits = all(lying[t] in spots for t in lot)
            table[lot] += fits and len(gathered_by_hand(book, lying, lot)) == len(lot)
    return table


def leads_on(book, lying, hints):
    if not all(lot is None or lying[t] in lot for t, lot in enumerate(hints)):
        return False
    held = gathered_by_hand(book, lying, list(lying))
    return support.spots_with(book, held) == tuple(support.spots_in_order(book))


def count_by_hand(book, frame):
    things = range(len(book[1]))
    found = ways(book, frame, things, support.spots_in_order(book))
    return len([lying for lying in found if leads_on(book, lying, frame[2])])


def some_book(rng, things=4):
    """A book of few SPOTS and things, most of them ASKED, and most of the SPOTS reached with all of them."""
    many = rng.choice((1, 1, 2))
    owners = [rng.randrange(many) for _ in range(rng.randint(0, things))]
    worlds = []
    for w in range(many):
        size = rng.randint(1, 4 if many == 1 else 3)
        own = [t for t, owner in enumerate(owners) if owner == w]
        arrows = [(rng.randrange(r), r, support.some_lot(rng, own)[:2]) for r in range(1, size) if rng.random() < 0.9]
        for _ in range(rng.randint(0, 2)):
            arrows.append((rng.randrange(size), rng.randrange(size), support.some_lot(rng, own)))
        worlds.append(("w%d" % w, tuple([("r%d" % r, 1, None) for r in range(size)]), tuple(arrows)))
    return (tuple(worlds), tuple([("t%d" % t, owner) for t, owner in enumerate(owners)]))


def some_frame(rng, book, with_hints, most=7):
    spots = support.spots_in_order(book)
    free = [0] * len(spots)
    for _ in range(rng.randint(0, most)):
        free[rng.randrange(len(spots))] += 1
    told = [rng.choice(spots) if rng.random() < 0.2 else None for _ in book[1]]
    hints = [support.some_lot(rng, spots) if with_hints and rng.random() < 0.4 else None for _ in book[1]]
    return (tuple(free), tuple(told), tuple(hints))


def some_frames(seed, many, with_hints):
    rng = random.Random(seed)
    found = []
    for _ in range(many):
        book = some_book(rng)
        found += [(book, some_frame(rng, book, with_hints)) for _ in range(2)]
    return found


def nothing_told(book, free):
    return (free, (None,) * len(book[1]), (None,) * len(book[1]))


class Reach(support.SameAgain, unittest.TestCase):

    def test_reach_tables(self):
        for book in [BOOK, NO_THINGS, SHUT, *support.SMALL_BOOKS, *support.some_books(40, 90)]:
            right = {lot: support.spots_with(book, lot) for lot in sorted(support.subsets(asked_by_hand(book)))}
            found = self.answer(thingtables.reach_table, book)
            self.assertEqual((type(found), list(found.items())), (dict, list(right.items())))

    def test_what_is_returned_is_new(self):
        found = thingtables.reach_table(BOOK)
        self.assertEqual(len(found), 8)
        found.clear()
        self.assertEqual(len(thingtables.reach_table(BOOK)), 8)

    def test_all_lots_in_order(self):
        lots = [(), (0,), (0, 1), (0, 1, 2), (0, 2), (1,), (1, 2), (2,)]
        self.assertEqual(list(thingtables.reach_table(BOOK)), lots)
        self.assertEqual(list(thingtables.ways_gathering(BOOK, nothing_told(BOOK, (1,) * 6))), lots)
        self.assertEqual(thingtables.reach_table(NO_THINGS), {(): ((0, 0), (0, 1))})


class Gathering(support.SameAgain, unittest.TestCase):

    def check(self, book, frame):
        right = gathering_by_hand(book, frame)
        found = self.answer(thingtables.ways_gathering, book, frame)
        self.assertEqual(repr(found), repr(right), (book, frame))
        return right

    def test_ways_gathering(self):
        kinds = set()
        for book, frame in some_frames(91, 160, False):
            right = self.check(book, frame)
            kinds.update([(len(lot), number > 0) for lot, number in right.items()])
        self.assertTrue({(k, more) for k in range(1, 4) for more in (True, False)} <= kinds)

    def test_told_things(self):
        frame = nothing_told(BOOK, (2, 1, 1, 1, 1, 1))
        for t in range(5):
            for spot in support.spots_in_order(BOOK):
                told = support.changed_at(frame[1], t, spot)
                self.check(BOOK, (frame[0], told, frame[2]))
        for told in [((0, 0), (0, 1), (1, 0)), ((0, 1), (0, 0), (1, 0)), ((0, 0), None, (1, 1)), ((0, 3), (0, 0), None),
                     (None, (0, 2), (0, 3))]:
            self.check(BOOK, ((1, 1, 1, 1, 1, 1), (*told, None, None), frame[2]))

    def test_nothing_free(self):
        frame = nothing_told(BOOK, (0,) * 6)
        self.assertEqual(set(self.check(BOOK, frame).values()), {0, 1})
        told = ((0, 0), (0, 1), (0, 3), None, None)
        self.assertEqual(self.check(BOOK, (frame[0], told, frame[2]))[(0, 1, 2)], 1)

    def test_no_things(self):
        self.assertEqual(thingtables.ways_gathering(NO_THINGS, ((3, 1), (), ())), {(): 1})
        self.assertEqual(thingtables.ways_gathering(SHUT, ((3, 1), (None,), (None,))), {(): 1})


class Ways(support.SameAgain, unittest.TestCase):

    def check(self, book, frame):
        right = count_by_hand(book, frame)
        found = self.answer(thingtables.count_ways, book, frame)
        self.assertEqual(repr(found), repr(right), (book, frame))
        return right

    def test_without_hints(self):
        found = [self.check(book, frame) > 0 for book, frame in some_frames(92, 160, False)]
        self.assertGreater(min(found.count(True), found.count(False)), 60)

    def test_with_hints(self):
        found = [self.check(book, frame) > 0 for book, frame in some_frames(93, 260, True)]
        self.assertGreater(min(found.count(True), found.count(False)), 60)

    def test_hints_of_one_spot_of_several_and_of_none_that_is_reached(self):
        free = (2, 1, 1, 0, 1, 1)
        spots = support.spots_in_order(BOOK)
        none = (None,) * 5
        for t in (0, 1, 2, 3, 4):
            for lot in [(spot,) for spot in spots] + [tuple(spots[:2]), tuple(spots[::2]), tuple(spots), (), ((0, 3),)]:
                self.check(BOOK, (free, none, support.changed_at(none, t, lot)))
        # Whatever opens the way to a SPOT can't lie there.
        self.assertEqual(self.check(BOOK, (free, none, (((0, 1), (0, 2)), None, None, None, None))), 0)

    def test_hints_of_many_things(self):
        rng = random.Random(94)
        spots = support.spots_in_order(BOOK)
        found = 0
        for _ in range(60):
            hints = tuple([support.some_lot(rng, spots) or None for _ in range(5)])
            free = tuple([rng.choice((0, 1, 1, 2)) for _ in spots])
            if sum(free) <= 7:
                found += self.check(BOOK, (free, (None,) * 5, hints)) > 0
        self.assertGreater(found, 10)

    def test_hints_of_told_things(self):
        free = (2, 1, 1, 1, 1, 0)
        for t in (0, 3):
            for spot in ((0, 0), (0, 1), (1, 1)):
                for lot in (((0, 0),), ((0, 1), (1, 1)), ((0, 0), (0, 1)), ()):
                    told = support.changed_at((None,) * 5, t, spot)
                    right = self.check(BOOK, (free, told, support.changed_at((None,) * 5, t, lot)))
                    self.assertTrue(right == 0 or spot in lot)

    def test_things_told_where_nothing_reaches(self):
        free = (2, 1, 1, 1, 1, 1)
        shut = ((("w", PLAIN[:3], ((0, 1, (0,)),)),), (("t0", 0), ("t1", 0)))
        self.assertEqual(self.check(shut, ((3, 3, 3), (None, None), (None, None))), 0)
        for told, more in [(((0, 1), None, None, None, None), False), ((None, (0, 3), None, None, None), False),
                           ((None, None, None, (0, 3), (1, 1)), True), (((1, 1), None, (0, 3), None, None), False),
                           (((1, 1), None, (0, 0), None, None), True)]:
            self.assertIs(self.check(BOOK, (free, told, (None,) * 5)) > 0, more)

    def test_nothing_free_and_no_things(self):
        self.assertEqual(self.check(BOOK, nothing_told(BOOK, (0,) * 6)), 0)
        told = ((0, 0), (0, 1), (0, 3), (1, 1), (0, 0))
        self.assertEqual(self.check(BOOK, ((0,) * 6, told, (None,) * 5)), 1)
        self.assertEqual(self.check(NO_THINGS, ((0, 0), (), ())), 1)
        self.assertEqual(self.check(NO_THINGS, ((5, 0), (), ())), 1)
        self.assertEqual(self.check(SHUT, ((5, 5), (None,), (None,))), 0)

    def test_no_thing_is_asked(self):
        book = ((("w", PLAIN[:2], ((0, 1, ()),)),), (("t0", 0), ("t1", 0), ("t2", 0)))
        for free in ((0, 0), (1, 1), (2, 1), (3, 2)):
            self.assertEqual(self.check(book, nothing_told(book, free)), math.perm(sum(free), 3))
        self.assertEqual(self.check(book, ((3, 2), (None,) * 3, (((0, 1),), ((0, 1),), None))), 2 * 3)


class Large(unittest.TestCase):
    """Twelve things, six of them ASKED."""

    def book(self, asked):
        regions = tuple([("r%d" % r, 3, None) for r in range(12)])
        worlds = []
        for w in range(3):
            own = [t for t in asked if t % 3 == w]
            arrows = [(r // 2, r, (own[r % 2],) if r in (3, 4, 7) else tuple(own) if r == 8 else ()) for r in
                      range(1, 12)]
            worlds.append(("w%d" % w, regions, tuple(arrows)))
        return (tuple(worlds), tuple([("t%d" % t, t % 3) for t in range(12)]))

    def test_what_is_told_adds_up(self):
        for asked in (range(6), range(6, 12)):
            book = self.book(asked)
            spots = support.spots_in_order(book)
            self.assertEqual(asked_by_hand(book), list(asked))
            none = (None,) * 12
            free = (3,) * 36
            many = thingtables.count_ways(book, (free, none, none))
            for t in (0, 5, 6, 11):
                told = []
                for k, spot in enumerate(spots):
                    left = support.changed_at(free, k, 2)
                    told.append(3 * thingtables.count_ways(book, (left, support.changed_at(none, t, spot), none)))
                self.assertEqual(sum(told), many)
                lot = tuple(spots[5:25:5])
                hints = support.changed_at(none, t, lot)
                right = sum([told[k] for k, spot in enumerate(spots) if spot in lot])
                self.assertEqual(thingtables.count_ways(book, (free, none, hints)), right)

    def test_three_hints_of_four_spots(self):
        book = self.book(range(6))
        spots = support.spots_in_order(book)
        free, none = (3,) * 36, (None,) * 12
        lots = {1: tuple(spots[0:16:4]), 4: tuple(spots[10:14]), 9: tuple(spots[0:32:8])}
        right = 0
        for chosen in itertools.product(*lots.values()):
            told, left, times = list(none), list(free), 1
            for t, spot in zip(lots, chosen):
                told[t] = spot
                times *= left[spots.index(spot)]
                left[spots.index(spot)] -= 1
            right += times * thingtables.count_ways(book, (tuple(left), tuple(told), none))
        hints = tuple([lots.get(t) for t in range(12)])
        self.assertEqual(thingtables.count_ways(book, (free, none, hints)), right)
        self.assertGreater(right, 10 ** 15)


if __name__ == "__main__":
    unittest.main()
