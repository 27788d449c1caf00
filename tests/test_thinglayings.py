"""[29], [6]: LAYINGS of things numbered."""

import itertools
import random
import unittest

from tests import support
from tests.test_thingtables import BOOK, Large, leads_on, some_book
from wellstrewn import thinglayings, thingtables
from wellstrewn.errors import NoNumber

# The book of the other tests has no chests of its own: here each SPOT has three, some in dungeons.
REGIONS = (("a", 3, None), ("b", 2, support.KEEP), ("c", 0, support.VAULT), ("d", 1, None))
CHESTS = ((("one", REGIONS, BOOK[0][0][2]), ("two", REGIONS[:2], BOOK[0][1][2])), BOOK[1])


def with_chests(rng, book):
    """A book with more chests in its regions, some of them in dungeons."""
    worlds = []
    for name, regions, arrows in book[0]:
        rows = [(label, rng.randint(0, 2), rng.choice((None, None, support.KEEP))) for label, _, _ in regions]
        worlds.append((name, tuple(rows), arrows))
    return (tuple(worlds), book[1])


def some_field(rng, book, most=6):
    """A FIELD of a book, None where there are no chests for what is told."""
    pool = support.places_in_order(book)
    things = len(book[1])
    told_things = [t for t in range(things) if rng.random() < 0.25]
    if len(pool) < len(told_things):
        return None
    rng.shuffle(pool)
    told = [None] * things
    for t in told_things:
        told[t] = pool.pop()
    places = tuple(sorted(pool[:rng.randint(0, most)]))
    spots = support.spots_in_order(book)
    hints = [support.some_lot(rng, spots) if rng.random() < 0.25 else None for _ in range(things)]
    return (places, tuple(told), tuple(hints))


def some_fields(seed, many):
    rng = random.Random(seed)
    found = []
    while len(found) < many:
        book = with_chests(rng, some_book(rng))
        field = some_field(rng, book)
        if field is not None:
            found.append((book, field))
    return found


def layings(book, field):
    """All LAYINGS of a FIELD, in their order."""
    places, told, hints = field
    loose = [t for t, place in enumerate(told) if place is None]
    found = []
    for chosen in itertools.permutations(places, len(loose)):
        row = list(told)
        for t, place in zip(loose, chosen):
            row[t] = place
        if leads_on(book, {t: place[:2] for t, place in enumerate(row)}, hints):
            found.append(tuple(row))
    return sorted(found)


FIELDS = [(book, field, layings(book, field)) for book, field in some_fields(100, 260)]


def nothing_told(book, places):
    return (tuple(places), (None,) * len(book[1]), (None,) * len(book[1]))


class Fields(support.SameAgain, unittest.TestCase):

    def test_field_frames(self):
        for book, field, _ in FIELDS:
            places, told, hints = field
            free = tuple([len([place for place in places if place[:2] == spot])
                          for spot in support.spots_in_order(book)])
            right = (free, tuple([None if place is None else place[:2] for place in told]), hints)
            self.assertEqual(self.answer(thinglayings.field_frame, book, field), right)

    def test_a_field_by_hand(self):
        places = ((0, 0, -1, 1), (0, 1, -1, 0), (0, 1, 1, 1), (1, 1, 0, 0))
        told = (None, (0, 0, -1, 0), None, (1, 1, 1, 0), None)
        hints = (None, ((0, 0),), ((0, 1), (1, 1)), None, ())
        self.assertEqual(thinglayings.field_frame(CHESTS, (places, told, hints)),
                         ((1, 2, 0, 0, 0, 1), (None, (0, 0), None, (1, 1), None), hints))

    def test_counts_by_going_through(self):
        for book, field, right in FIELDS:
            found = self.answer(thinglayings.count_layings, book, field)
            self.assertEqual(repr(found), repr(len(right)), (book, field))
        some = [right != [] for _, _, right in FIELDS]
        self.assertGreater(min(some.count(True), some.count(False)), 60)


class IsLaying(support.SameAgain, unittest.TestCase):

    def test_all_that_could_be_one(self):
        found = [0, 0]
        for book, field, right in FIELDS:
            pool = sorted(set(field[0]) | {place for place in field[1] if place is not None})
            for some in list(itertools.product(pool, repeat=len(book[1])))[::7]:
                self.assertIs(self.says(thinglayings.is_laying, book, field, some), some in right)
                found[some in right] += 1
            for some in right[::3]:
                self.assertIs(self.says(thinglayings.is_laying, book, field, some), True)
                found[True] += 1
        self.assertGreater(min(found), 200)

    def test_one_part_otherwise(self):
        for book, field, right in [row for row in FIELDS if row[2]][::25]:
            shown = {repr(some) for some in right}
            for other in support.mutants(right[0]) + support.mutants(right[-1]):
                self.assertIs(self.says(thinglayings.is_laying, book, field, other), repr(other) in shown, other)

    def test_any_value(self):
        for book, field, right in FIELDS[::12]:
            for value in support.STRANGE + (book, field, ((0, 0, -1, 0),), ((0, 0, -1, 0),) * len(book[1])):
                self.assertIs(self.says(thinglayings.is_laying, book, field, value), value in right, value)

    def test_told_ones_places_and_hints(self):
        places = ((0, 0, -1, 0), (0, 0, -1, 1), (0, 1, -1, 0), (1, 0, -1, 0), (1, 0, -1, 1))
        told = (None, None, None, (0, 0, -1, 2), None)
        good = (places[0], places[2], places[3], told[3], places[4])
        for some, hints, right in [(good, (None,) * 5, True),
                                   (good[:3] + (places[1],) + good[4:], (None,) * 5, False),
                                   (good[:4] + (good[0],), (None,) * 5, False),
                                   (good[:4] + (told[3],), (None,) * 5, False),
                                   (good[:4] + ((1, 0, -1, 2),), (None,) * 5, False),
                                   ((places[2], places[0]) + good[2:], (None,) * 5, False),
                                   (good, (((0, 0),), ((0, 1), (0, 2)), None, None, ((0, 1), (1, 0))), True),
                                   (good, (None, None, None, ((0, 1),), None), False),
                                   (good, (None, None, None, None, ()), False),
                                   (good, (None, ((0, 0), (0, 2)), None, None, None), False)]:
            self.assertIs(self.says(thinglayings.is_laying, CHESTS, (places, told, hints), some), right)


class Numbers(support.SameAgain, unittest.TestCase):

    def check_none(self, book, field, many):
        for n in (many, many + 1, 10 ** 39):
            with self.assertRaises(NoNumber) as caught:
                self.answer(thinglayings.nth_laying, book, field, n)
            self.assertEqual(repr(caught.exception.many), repr(many))

    def test_there_and_back_over_all_numbers(self):
        for book, field, right in FIELDS:
            for n in range(0, len(right), 1 + len(right) // 9):
                some = self.answer(thinglayings.nth_laying, book, field, n)
                self.assertEqual(repr(some), repr(right[n]))
                self.assertEqual(repr(self.answer(thinglayings.laying_number, book, field, some)), repr(n))
            self.check_none(book, field, len(right))

    def test_all_numbers_of_some(self):
        for book, field, right in [row for row in FIELDS if 10 < len(row[2]) < 200][::6]:
            self.assertEqual([thinglayings.nth_laying(book, field, n) for n in range(len(right))], right)
            numbers = [thinglayings.laying_number(book, field, some) for some in right]
            self.assertEqual(numbers, list(range(len(right))))

    def test_numbers_of_what_is_no_laying(self):
        rng = random.Random(101)
        found = set()
        for book, field, right in FIELDS:
            pool = support.places_in_order(book)
            inner = sorted(set(field[0]) | {place for place in field[1] if place is not None})
            for k in range(10):
                some = tuple([rng.choice(inner if inner and k < 6 else pool or [(0, 0, -1, 0)]) for _ in book[1]])
                if right and k % 2 == 0:
                    base = rng.choice(right)
                    cut = rng.randint(0, len(base))
                    some = base[:cut] + some[cut:]
                below = len([other for other in right if other < some])
                self.assertEqual(repr(self.answer(thinglayings.laying_number, book, field, some)), repr(below))
                found.add((some in right, len(set(some)) < len(some), set(some) <= set(inner), 0 < below < len(right)))
        self.assertGreaterEqual(len(found), 8)

    def test_a_place_twice_and_places_that_are_none(self):
        places = tuple(support.places_in_order(CHESTS))[:8:2]
        field = (places, (None, (0, 0, -1, 1), None, (1, 0, -1, 0), (1, 0, -1, 1)), (None,) * 5)
        right = layings(CHESTS, field)
        self.assertGreater(len(right), 3)
        for first, second, third in itertools.product(support.places_in_order(CHESTS)[:9], repeat=3):
            some = (first, second, third, (1, 0, -1, 0), (1, 0, -1, 2))
            below = len([other for other in right if other < some])
            self.assertEqual(thinglayings.laying_number(CHESTS, field, some), below)

    def test_no_things(self):
        book = ((("w", (("a", 2, None),), ()),), ())
        field = (((0, 0, -1, 0),), (), ())
        self.assertEqual(thinglayings.count_layings(book, field), 1)
        self.assertEqual(self.answer(thinglayings.nth_laying, book, field, 0), ())
        self.assertEqual(self.answer(thinglayings.laying_number, book, field, ()), 0)
        self.assertIs(self.says(thinglayings.is_laying, book, field, ()), True)
        self.check_none(book, field, 1)
        shut = ((("w", (("a", 2, None), ("b", 0, None)), ()),), ())
        self.assertEqual(thinglayings.count_layings(shut, field), 0)
        self.assertIs(self.says(thinglayings.is_laying, shut, field, ()), False)
        self.check_none(shut, field, 0)

    def test_all_is_told(self):
        book = ((("w", (("a", 2, None), ("b", 1, None)), ((0, 1, (0,)),)),), (("t0", 0), ("t1", 0)))
        for told, many in [(((0, 0, -1, 0), (0, 1, -1, 0)), 1), (((0, 1, -1, 0), (0, 0, -1, 0)), 0)]:
            for places in ((), ((0, 0, -1, 1),)):
                field = (places, told, (None, None))
                self.assertEqual(thinglayings.count_layings(book, field), many)
                self.check_none(book, field, many)
                if many:
                    self.assertEqual(thinglayings.nth_laying(book, field, 0), told)
                for some, below in [(told, 0), (((0, 0, -1, 0), (0, 0, -1, 0)), 0), (((0, 1, -1, 0),) * 2, many)]:
                    self.assertEqual(thinglayings.laying_number(book, field, some), below)


class Wide(unittest.TestCase):
    """Twelve things, six of them ASKED, and all chests of 36 regions."""

    def check(self, book, field, numbers):
        last = None
        for n in sorted(numbers):
            some = thinglayings.nth_laying(book, field, n)
            self.assertIs(thinglayings.is_laying(book, field, some), True)
            self.assertEqual(thinglayings.laying_number(book, field, some), n)
            self.assertTrue(last is None or last < some)
            last = some

    def test_both_ends_and_the_midst(self):
        rng = random.Random(102)
        for asked in (range(6), range(6, 12), range(0, 12, 2)):
            book = Large().book(asked)
            field = nothing_told(book, support.places_in_order(book))
            many = thinglayings.count_layings(book, field)
            self.assertEqual(many, thingtables.count_ways(book, ((3,) * 36, field[1], field[2])))
            numbers = {0, 1, many // 2, many - 1, rng.randrange(many), rng.randrange(many)}
            self.check(book, field, numbers)
            with self.assertRaises(NoNumber) as caught:
                thinglayings.nth_laying(book, field, many)
            self.assertEqual(caught.exception.many, many)

    def test_with_hints_and_told_ones(self):
        rng = random.Random(103)
        book = Large().book(range(6))
        spots, places = support.spots_in_order(book), support.places_in_order(book)
        for seed in range(3):
            told = {t: places[rng.randrange(40)] for t in (7, 8)[:seed]}
            hints = {t: tuple(sorted(rng.sample(spots[:20], 4))) for t in (1, 9, 11)}
            if len(set(told.values())) < len(told):
                continue
            field = (tuple([place for place in places if place not in told.values()]),
                     tuple([told.get(t) for t in range(12)]), tuple([hints.get(t) for t in range(12)]))
            many = thinglayings.count_layings(book, field)
            self.assertGreater(many, 10 ** 9)
            self.check(book, field, {0, many // 2, many - 1})

    def test_the_first_ones_follow_each_other(self):
        book = Large().book(range(6, 12))
        field = nothing_told(book, support.places_in_order(book))
        row = [thinglayings.nth_laying(book, field, n) for n in range(12)]
        self.assertEqual(row, sorted(row))
        self.assertEqual([thinglayings.laying_number(book, field, some) for some in row], list(range(12)))


if __name__ == "__main__":
    unittest.main()
