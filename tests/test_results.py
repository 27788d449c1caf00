"""[37]: what comes of a race."""

import random
import unittest

from tests import reckon, support
from tests.test_races import BOOK, CAMP, CAVE, SHUFFLE, SOME, YARD, judged_by_hand, some_log, spoilt, states_by_hand
from wellstrewn import goodness, races, results
from wellstrewn.errors import NoDeed

FUNCTIONS = (results.finish_ticks, results.ranks, results.splits, results.waits)


def along(log):
    """The pairs (TIME, STATE) along a LOG whose DEEDS are a PLAY."""
    return list(zip([0] + [tick for tick, _ in log], states_by_hand([deed for _, deed in log])))


def is_done(book, shuffle, state, w):
    """Whether all SPOTS and HALLS of a world are REACHED."""
    reached = set(reckon.spots(book, shuffle, state)) | set(reckon.halls(book, shuffle, state))
    own = [row for row in support.spots_in_order(book) + support.halls_in_order(book) if row[0] == w]
    return set(own) <= reached


def finish_by_hand(book, shuffle, log):
    found = []
    for w in range(len(book[0])):
        times = [time for time, state in along(log) if w not in state[2] and is_done(book, shuffle, state, w)]
        found.append(times[0] if times else None)
    return tuple(found)


def ranks_by_hand(ticks):
    told = sorted([tick for tick in ticks if tick is not None])
    return tuple([None if tick is None else told.index(tick) for tick in ticks])


def splits_by_hand(book, shuffle, log):
    homes = {content: place for place, content in reckon.lying(book, shuffle).items()}
    found = []
    for t in range(len(book[1])):
        times = [time for time, state in along(log) if t in reckon.held(book, shuffle, state)]
        found.append((times[0], homes[("thing", t)][0]) if times else None)
    return tuple(found)


def waits_by_hand(book, shuffle, log):
    rows = along(log)
    found = [0] * len(book[0])
    for (time, state), (later, _) in zip(rows[:-1], rows[1:]):
        for w in range(len(book[0])):
            able = [deed for deed in reckon.deeds(book, shuffle, state) if deed[1][0] == w]
            if w not in state[2] and not able and not is_done(book, shuffle, state, w):
                found[w] += later - time
    return tuple(found)


class Results(support.SameAgain, unittest.TestCase):

    def check(self, book, shuffle, log):
        ticks = finish_by_hand(book, shuffle, log)
        right = (ticks, ranks_by_hand(ticks), splits_by_hand(book, shuffle, log), waits_by_hand(book, shuffle, log))
        for function, value in zip(FUNCTIONS, right):
            self.assertEqual(repr(self.answer(function, book, shuffle, log)), repr(value))
        return right

    def test_logs_of_all_sorts(self):
        rng = random.Random(260)
        waited, unlike, late = 0, 0, 0
        for book, shuffle in SOME:
            for leaving in (0, 0.15):
                log = some_log(rng, book, shuffle, leaving)
                cut = rng.randint(0, len(log))
                ticks, ranks, splits, waits = self.check(book, shuffle, log)
                self.check(book, shuffle, log[:cut])
                waited += max(waits) > 0
                unlike += len(set(ranks) - {None}) > 1
                late += any(split and split[0] > 0 for split in splits)
        self.assertGreater(min(waited, unlike, late), 8, (waited, unlike, late))

    def test_two_worlds(self):
        rng = random.Random(261)
        two = [(book, shuffle) for book, shuffle in SOME if len(book[0]) > 1] + [(BOOK, SHUFFLE)] * 9
        for book, shuffle in two * 3:
            self.check(book, shuffle, some_log(rng, book, shuffle, 0.1))

    def test_the_empty_log(self):
        for book, shuffle in SOME[::4]:
            self.check(book, shuffle, ())
        self.assertEqual([function(BOOK, SHUFFLE, ()) for function in FUNCTIONS],
                         [(None, 0), (None, 0), (None, None), (0, 0)])

    def test_by_hand(self):
        whole = ((2, CAMP), (9, YARD), (9, CAVE))
        for log, right in [
                (whole, ((9, 0), (1, 0), ((9, 1), (9, 0)), (7, 0))),
                (whole[:2], ((9, 0), (1, 0), ((9, 1), None), (7, 0))),
                (whole[:1], ((None, 0), (None, 0), (None, None), (0, 0))),
                # What is not told by a DEED of one's own is told by one who leaves.
                (((2, CAMP), (3, ("leave", 1)), (5, CAVE)), ((3, 0), (1, 0), ((3, 1), (5, 0)), (1, 0))),
                # Who has left waits no more, and is not DONE later.
                (((2, CAMP), (4, ("leave", 0)), (8, YARD)), ((None, 0), (None, 0), ((8, 1), (4, 0)), (2, 0))),
                (((0, YARD), (0, CAVE), (7, CAMP)), ((0, 0), (0, 0), ((0, 1), (0, 0)), (0, 0))),
                (((6, ("leave", 1)), (6, ("leave", 0))), ((6, 0), (1, 0), ((6, 1), (6, 0)), (0, 0)))]:
            self.assertEqual(self.check(BOOK, SHUFFLE, log), right)

    def test_ranks_with_ticks_alike(self):
        worlds = [("abcd"[w], (("x", 1, None), ("y", 0, None)), ((0, 1, (w,)),)) for w in range(4)]
        book = (tuple(worlds), tuple([("t%d" % w, w) for w in range(4)]))
        shuffle = tuple([("thing", w) for w in range(4)])
        deeds = [("open", (w, 0, -1, 0)) for w in range(4)]
        for ticks, right in [((3, 3, 5, 5), (0, 0, 2, 2)), ((1, 1, 1, 1), (0,) * 4), ((1, 2, 2, 3), (0, 1, 1, 3))]:
            log = tuple(zip(ticks, deeds))
            self.assertEqual(self.check(book, shuffle, log)[1], right)
        self.assertEqual(self.check(book, shuffle, ((1, deeds[2]), (1, deeds[0])))[1], (0, None, 0, None))

    def test_rooms_that_are_not_reached(self):
        keep = (((None, None, 1), (0, "lock", 0)), 1)
        book = ((("w", (("a", 0, keep),), ()),), ())
        chest, lock = ("open", (0, 0, 0, 0)), ("unlock", (0, 0, 1))
        self.assertEqual(self.check(book, (("key",),), ((2, chest), (5, lock)))[0], (5,))
        self.assertEqual(self.check(book, (("key",),), ((2, chest),))[0], (None,))

    def test_refused(self):
        rng = random.Random(262)
        found = set()
        for book, shuffle in SOME:
            log = spoilt(rng, book, some_log(rng, book, shuffle, most=8))
            right = judged_by_hand(book, shuffle, [deed for _, deed in log])
            if right is None:
                self.check(book, shuffle, log)
                continue
            for function in FUNCTIONS:
                with self.assertRaises(NoDeed) as caught:
                    self.answer(function, book, shuffle, log)
                self.assertEqual(repr(caught.exception.index), repr(right))
            found.add(right)
        self.assertGreater(len(found), 4)

    def test_somebody_always_goes_on(self):
        # What the last words of [37] say: of a GOOD SHUFFLE not all who are not DONE wait.
        rng = random.Random(263)
        for book, shuffle in [pair for pair in SOME if goodness.is_good(*pair)]:
            log = some_log(rng, book, shuffle, 0.1)
            for state in races.states_along(book, shuffle, log):
                if reckon.left_open(book, shuffle, state) != ((), ()):
                    self.assertNotEqual(reckon.deeds(book, shuffle, state), ())


if __name__ == "__main__":
    unittest.main()
