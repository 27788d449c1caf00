"""[16]: regions that are reached."""

import itertools
import unittest

from tests import support
from wellstrewn import regions

PLAIN = (("home", 2, None), ("keep", 0, support.KEEP), ("peak", 1, support.VAULT), ("moor", 3, None))
BOOK = ((("w", PLAIN, ((0, 1, (0,)), (0, 1, (0,)), (1, 2, (0, 2)), (2, 0, ()), (2, 2, (2,)), (3, 0, ()))),
         ("v", (("home", 1, None), ("hut", 0, support.NOOK)), ((0, 1, (1,)), (1, 0, (1,)))),
         ("u", (("home", 0, None),), ((0, 0, ()),))),
        (("hook", 0), ("coin", 1), ("rope", 0)))
BOOKS = [BOOK, *support.SMALL_BOOKS, *support.some_books(80, 19)]


def belonging(book, w, r):
    """How many small keys and big keys belong at a SPOT."""
    dungeon = book[0][w][1][r][2]
    return 0 if dungeon is None else dungeon[1] + (1 if [room for room in dungeon[0] if room[1] == "bar"] else 0)


class Regions(support.SameAgain, unittest.TestCase):

    def test_first_spots(self):
        for book in BOOKS:
            self.assertEqual(self.answer(regions.first_spots, book), tuple([(w, 0) for w in range(len(book[0]))]))

    def test_reached_spots_and_others(self):
        for book in BOOKS:
            for held in support.subsets(range(len(book[1]))):
                reached = support.spots_with(book, held)
                self.assertEqual(self.answer(regions.reached_spots, book, held), reached)
                off = tuple([spot for spot in support.spots_in_order(book) if spot not in reached])
                self.assertEqual(self.answer(regions.spots_off, book, held), off)

    def test_barred_arrows(self):
        for book in BOOKS:
            for held in support.subsets(range(len(book[1]))):
                reached = support.spots_with(book, held)
                barred = []
                for w in range(len(book[0])):
                    for a in range(len(book[0][w][2])):
                        one, other, needs = book[0][w][2][a]
                        if (w, one) in reached and (w, other) not in reached:
                            barred.append((w, a, tuple(sorted(set(needs) - set(held)))))
                self.assertEqual(self.answer(regions.barred_arrows, book, held), tuple(barred))

    def test_rows_by_hand(self):
        self.assertEqual(regions.reached_spots(BOOK, ()), ((0, 0), (1, 0), (2, 0)))
        self.assertEqual(regions.reached_spots(BOOK, (0,)), ((0, 0), (0, 1), (1, 0), (2, 0)))
        self.assertEqual(regions.reached_spots(BOOK, (2,)), ((0, 0), (1, 0), (2, 0)))
        self.assertEqual(regions.spots_off(BOOK, (0, 1, 2)), ((0, 3),))
        self.assertEqual(regions.barred_arrows(BOOK, ()), ((0, 0, (0,)), (0, 1, (0,)), (1, 0, (1,))))
        self.assertEqual(regions.barred_arrows(BOOK, (0, 1)), ((0, 2, (2,)),))
        self.assertEqual(regions.barred_arrows(BOOK, (0, 1, 2)), ())

    def test_who_holds_more_reaches_no_less(self):
        for book in BOOKS:
            lots = support.subsets(range(len(book[1])))
            for less, more in itertools.product(lots, lots):
                if set(less) <= set(more):
                    reached = regions.reached_spots(book, more)
                    self.assertTrue(set(regions.reached_spots(book, less)) <= set(reached))
                    self.assertTrue(set(regions.spots_off(book, more)) <= set(regions.spots_off(book, less)))

    def test_places_and_free_many(self):
        for book in BOOKS:
            spots = support.spots_in_order(book)
            for lot in support.subsets(spots[:6]) + [tuple(spots), tuple(spots[3:]), tuple(spots[1::2])]:
                there = tuple([place for place in support.places_in_order(book) if place[:2] in lot])
                self.assertEqual(self.answer(regions.places_in, book, lot), there)
                free = len(there) - sum([belonging(book, w, r) for w, r in lot])
                self.assertEqual(self.answer(regions.free_many, book, lot), free)

    def test_too_few_chests(self):
        book = support.SMALL_BOOKS[-1]
        self.assertEqual([regions.free_many(book, ()), regions.free_many(book, ((0, 0),))], [0, 2])
        crowded = ((("w", (("home", 0, (((None, None, 1), (0, "bar", 0)), 4)), ("yard", 2, None)), ()),), ())
        self.assertEqual([regions.free_many(crowded, ((0, 0),)), regions.free_many(crowded, ((0, 0), (0, 1)))],
                         [-4, -2])
        self.assertEqual(regions.free_many(BOOK, ((0, 2),)), 1 + 5 - 3)


if __name__ == "__main__":
    unittest.main()
