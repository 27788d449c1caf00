"""[35], [36], [9]: LOGS, judged and joined."""

import itertools
import random
import unittest

from tests import goods, reckon, support
from wellstrewn import races
from wellstrewn.errors import NoDeed

START = ((), (), ())
NORTH = ("north", (("camp", 1, None), ("cave", 1, None)), ((0, 1, (0,)),))
BOOK = ((NORTH, ("south", (("yard", 1, None),), ())), (("hook", 0), ("lamp", 0)))
SHUFFLE = (("straw",), ("thing", 1), ("thing", 0))
CAMP, CAVE, YARD = [("open", place) for place in ((0, 0, -1, 0), (0, 1, -1, 0), (1, 0, -1, 0))]


def judged_by_hand(book, shuffle, deeds):
    state = START
    for k, deed in enumerate(deeds):
        if deed not in reckon.deeds(book, shuffle, state) + reckon.leaves(book, state):
            return k
        state = reckon.after(state, deed)
    return None


def states_by_hand(deeds):
    return [START] + [reckon.after(state, deed) for state, deed in
                      zip(itertools.accumulate(deeds, reckon.after, initial=START), deeds)]


def some_log(rng, book, shuffle, leaving=0.1, most=99):
    """A LOG whose DEEDS are a PLAY, ticks alike and not."""
    tick, log = rng.choice((0, 0, 1, 5)), []
    for deed in reckon.some_play(rng, book, shuffle, leaving, most):
        log.append((tick, deed))
        tick += rng.choice((0, 0, 1, 2, 10 ** 9))
    return tuple(log)


def all_deeds(book):
    return ([("open", place) for place in support.places_in_order(book)]
            + [("unlock", hall) for hall in support.halls_in_order(book)]
            + [("leave", w) for w in range(len(book[0]))])


def spoilt(rng, book, log):
    """A LOG that perhaps is no PLAY: a DEED left out, exchanged, twice, or another one."""
    deeds = [deed for _, deed in log]
    way = rng.randrange(4)
    k = rng.randrange(len(deeds) + 1)
    if way == 0:
        deeds = deeds[:k] + [rng.choice(all_deeds(book))] + deeds[k:]
    elif way == 1:
        deeds = deeds[:k] + deeds[k + 1:]
    elif way == 2:
        deeds = deeds[:k] + deeds[k:][::-1]
    else:
        deeds = deeds[:k] + deeds[k - 1:]
    ticks = sorted([rng.randint(0, 9) for _ in deeds])
    return tuple(zip(ticks, deeds))


SOME = [(gone.book, shuffle) for gone in goods.TINY for shuffle in gone.all[::1 + len(gone.all) // 4]]


def is_right(book, value):
    deeds = [repr(deed) for deed in all_deeds(book)]
    if type(value) is not tuple or not all(type(row) is tuple and len(row) == 2 for row in value):
        return False
    ticks = [tick for tick, _ in value]
    if not all(type(tick) is int and tick >= 0 for tick in ticks) or ticks != sorted(ticks):
        return False
    return all(repr(deed) in deeds for _, deed in value)


class IsLog(support.SameAgain, unittest.TestCase):

    def check(self, book, value):
        right = is_right(book, value)
        self.assertIs(self.says(races.is_log, book, value), right, value)
        return right

    def test_ones_that_are(self):
        rng = random.Random(250)
        for book, shuffle in SOME:
            log = some_log(rng, book, shuffle)
            self.assertTrue(self.check(book, log))
            self.assertTrue(self.check(book, spoilt(rng, book, log)))
        self.assertTrue(self.check(BOOK, ()))

    def test_one_part_otherwise(self):
        rng = random.Random(251)
        found = [0, 0]
        for book, shuffle in SOME[::12] + [(BOOK, SHUFFLE)]:
            for other in support.mutants(some_log(rng, book, shuffle, 0.2, 3)):
                found[self.check(book, other)] += 1
        self.assertGreater(min(found), 30)

    def test_by_hand(self):
        for value, right in [(((1, CAMP), (1, YARD)), True), (((2, CAMP), (1, YARD)), False), (((0, CAMP),) * 2, True),
                             (((True, CAMP),), False), (((False, CAMP),), False), (((-1, CAMP),), False),
                             (((0, ("leave", 1)),), True), (((0, ("leave", True)),), False),
                             (((0, ("leave", 2)),), False), (((0, ("unlock", (0, 0, 0))),), False),
                             (((0, CAMP, 0),), False), (((0,),), False), ((0, CAMP), False), ([(0, CAMP)], False),
                             (([0, CAMP],), False), (((0, list(CAMP)),), False), (((None, CAMP),), False),
                             (((10 ** 39, CAMP),), True), ((("0", CAMP),), False)]:
            self.assertIs(self.check(BOOK, value), right, value)

    def test_any_value(self):
        for book, _ in SOME[::15] + [(BOOK, SHUFFLE)]:
            for value in support.STRANGE + (book, ((0, book),), ((0, ("open", None)),), ((), ())):
                self.check(book, value)


class Judging(support.SameAgain, unittest.TestCase):

    def check_refused(self, right, function, *arguments):
        with self.assertRaises(NoDeed) as caught:
            self.answer(function, *arguments)
        self.assertEqual(repr(caught.exception.index), repr(right))

    def check(self, book, shuffle, log):
        deeds = [deed for _, deed in log]
        right = judged_by_hand(book, shuffle, deeds)
        self.assertEqual(repr(self.answer(races.judged, book, shuffle, log)), repr(right))
        ticks = sorted({0, 3, 10 ** 39} | {tick + more for tick, _ in log for more in (0, 1)})
        if right is not None:
            self.check_refused(right, races.states_along, book, shuffle, log)
            for tick in ticks:
                self.check_refused(right, races.state_at, book, shuffle, log, tick)
            return right
        states = states_by_hand(deeds)
        self.assertEqual(repr(self.answer(races.states_along, book, shuffle, log)), repr(tuple(states)))
        for tick in ticks + [tick - 1 for tick, _ in log if tick > 0]:
            behind = states[len([1 for other, _ in log if other <= tick])]
            self.assertEqual(repr(self.answer(races.state_at, book, shuffle, log, tick)), repr(behind))
        return None

    def test_plays(self):
        rng = random.Random(252)
        for book, shuffle in SOME:
            self.assertIsNone(self.check(book, shuffle, some_log(rng, book, shuffle, most=12)))

    def test_what_may_not_be_done(self):
        rng = random.Random(253)
        places = set()
        for book, shuffle in SOME * 2:
            log = spoilt(rng, book, some_log(rng, book, shuffle, most=10))
            index = self.check(book, shuffle, log)
            if index is not None:
                places.add("first" if index == 0 else "last" if index == len(log) - 1 else "middle")
        self.assertEqual(places, {"first", "last", "middle"})

    def test_at_the_beginning_in_the_middle_and_at_the_end(self):
        for log, right in [(((0, CAVE), (1, YARD)), 0), (((0, CAMP), (1, CAVE), (2, YARD)), 1),
                           (((0, YARD), (0, CAVE), (9, CAVE)), 2), (((0, ("leave", 0)), (0, CAMP)), 1),
                           (((0, ("leave", 1)), (1, CAVE), (2, YARD)), 2), (((0, YARD), (1, CAVE), (1, CAMP)), None),
                           (((0, ("leave", 1)),) * 2, 1), ((), None)]:
            self.assertEqual(self.check(BOOK, SHUFFLE, log), right)

    def test_the_empty_log(self):
        self.assertEqual(races.states_along(BOOK, SHUFFLE, ()), (START,))
        self.assertEqual(races.state_at(BOOK, SHUFFLE, (), 0), START)

    def test_ticks_ahead_between_and_behind(self):
        log = ((2, CAMP), (4, YARD), (4, CAVE))
        states = races.states_along(BOOK, SHUFFLE, log)
        found = [races.state_at(BOOK, SHUFFLE, log, tick) for tick in (0, 1, 2, 3, 4, 5, 10 ** 20)]
        self.assertEqual(found, [states[k] for k in (0, 0, 1, 1, 3, 3, 3)])


class Joining(support.SameAgain, unittest.TestCase):

    def orders(self, logs):
        """All LOGS that have all rows, those of each player in their order."""
        if not any(logs):
            return [()]
        found = []
        least = min([log[0][0] for log in logs if log])
        for w, log in enumerate(logs):
            if log and log[0][0] == least:
                found += [log[:1] + rest for rest in self.orders(support.changed_at(logs, w, log[1:]))]
        return found

    def stuck(self, book, shuffle, logs):
        """Where one comes to if each time the least player whose DEED may be done goes on, and the LOG till there."""
        come, state, log = [0] * len(logs), START, []
        while True:
            left = [(logs[w][k][0], w, k) for w, k in enumerate(come) if k < len(logs[w])]
            rows = [(w, k) for tick, w, k in left if tick == min(left)[0]]
            can = [(w, k) for w, k in rows
                   if logs[w][k][1] in reckon.deeds(book, shuffle, state) + reckon.leaves(book, state)]
            if not can:
                return tuple(rows), tuple(log)
            w, k = can[0]
            log.append(logs[w][k])
            state = reckon.after(state, logs[w][k][1])
            come[w] += 1

    def check(self, book, shuffle, logs):
        right = [log for log in self.orders(logs) if judged_by_hand(book, shuffle, [deed for _, deed in log]) is None]
        found = self.answer(races.joined_log, book, shuffle, logs)
        barred = self.answer(races.barred_in, book, shuffle, logs)
        rows, log = self.stuck(book, shuffle, logs)
        if right:
            self.assertEqual((repr(found), barred), (repr(log), ()))
            self.assertIn(found, right)
        else:
            self.assertIsNone(found)
            self.assertEqual(repr(barred), repr(rows))
            self.assertNotEqual(barred, ())
        return bool(right)

    def parted(self, book, log):
        return tuple([tuple([row for row in log if (row[1][1] if row[1][0] == "leave" else row[1][1][0]) == w])
                      for w in range(len(book[0]))])

    def test_all_orders_of_small_logs(self):
        rng = random.Random(254)
        found = [0, 0]
        two = [(book, shuffle) for book, shuffle in SOME if len(book[0]) > 1]
        for book, shuffle in two * 6:
            log = some_log(rng, book, shuffle, 0.15, 7)
            if rng.random() < 0.6:
                log = spoilt(rng, book, log)
            ticks = sorted([rng.randint(0, 3) for _ in log])
            found[self.check(book, shuffle, self.parted(book, tuple(zip(ticks, [deed for _, deed in log]))))] += 1
        self.assertGreater(min(found), 40)

    def test_each_player_with_ticks_of_their_own(self):
        rng = random.Random(255)
        found = [0, 0]
        for book, shuffle in [(BOOK, SHUFFLE)] * 80:
            logs = []
            for deeds in ([CAMP, CAVE], [YARD]):
                deeds = deeds + [("leave", len(logs))] * rng.randint(0, 1)
                ticks = sorted([rng.randint(0, 4) for _ in deeds])
                logs.append(tuple(zip(ticks, deeds)))
            found[self.check(book, shuffle, tuple(logs))] += 1
        self.assertGreater(min(found), 15)

    def test_by_hand(self):
        for logs, log, barred in [
                (((), ()), (), ()),
                ((((4, CAVE),), ((4, YARD),)), ((4, YARD), (4, CAVE)), ()),
                ((((4, CAVE),), ((5, YARD),)), None, ((0, 0),)),
                ((((4, CAMP), (4, CAVE)), ((4, YARD),)), ((4, CAMP), (4, YARD), (4, CAVE)), ()),
                ((((1, CAMP), (4, CAVE)), ((5, YARD),)), None, ((0, 1),)),
                ((((4, CAVE), (4, CAVE)), ((4, YARD), (4, YARD))), None, ((0, 1), (1, 1))),
                ((((4, CAVE),), ((4, ("leave", 1)), (4, YARD))), None, ((1, 1),)),
                ((((3, ("leave", 0)), (3, CAMP)), ()), None, ((0, 1),))]:
            self.assertEqual(self.answer(races.joined_log, BOOK, SHUFFLE, logs), log)
            self.assertEqual(self.answer(races.barred_in, BOOK, SHUFFLE, logs), barred)
            self.check(BOOK, SHUFFLE, logs)

    def test_three_players(self):
        regions = (("a", 1, None), ("b", 1, None))
        book = (tuple([(name, regions, ((0, 1, (w,)),)) for w, name in enumerate("xyz")]),
                tuple([("t%d" % w, w) for w in range(3)]))
        # What each one asks lies with the next player behind what that one asks; all begin with the last one.
        shuffle = (("straw",), ("thing", 2), ("straw",), ("thing", 0), ("thing", 1), ("straw",))
        rng = random.Random(256)
        found = [0, 0]
        for _ in range(60):
            logs = []
            for w in range(3):
                deeds = [("open", (w, r, -1, 0)) for r in rng.choice(((0, 1), (1, 0), (1,), (0,)))]
                deeds += [("leave", w)] * rng.choice((0, 0, 1))
                logs.append(tuple(zip(sorted([rng.randint(0, 2) for _ in deeds]), deeds)))
            found[self.check(book, shuffle, tuple(logs))] += 1
        self.assertGreater(min(found), 5)


if __name__ == "__main__":
    unittest.main()
