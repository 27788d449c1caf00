"""[2], [13]: where things can lie."""

import random
import unittest

from tests import support
from wellstrewn import places

PAIRS = support.books_with_shuffles(80, 3)
BOOKS = list(support.SMALL_BOOKS) + [book for book, _ in PAIRS] + support.some_books(40, 4)


class OfBooks(support.SameAgain, unittest.TestCase):

    def test_spots_halls_and_places_stand_in_order(self):
        for book in BOOKS:
            self.assertEqual(self.answer(places.spots_of, book), tuple(support.spots_in_order(book)))
            self.assertEqual(self.answer(places.halls_of, book), tuple(support.halls_in_order(book)))
            self.assertEqual(self.answer(places.places_of, book), tuple(support.places_in_order(book)))
            for function in (places.spots_of, places.halls_of, places.places_of):
                self.assertEqual(function(book), tuple(sorted(set(function(book)))))

    def test_dungeons_and_rooms(self):
        for book in BOOKS:
            with_dungeon = []
            for w, r in support.spots_in_order(book):
                region = book[0][w][1][r]
                self.assertEqual(self.answer(places.region_at, book, (w, r)), region)
                self.assertEqual(self.answer(places.dungeon_at, book, (w, r)), region[2])
                if region[2] is not None:
                    with_dungeon.append((w, r))
                    for v, room in enumerate(region[2][0]):
                        self.assertEqual(self.answer(places.room_at, book, (w, r, v)), room)
            self.assertEqual(self.answer(places.dungeon_spots, book), tuple(with_dungeon))

    def test_asked_things(self):
        for book in BOOKS:
            asked = set()
            for _, _, arrows in book[0]:
                for _, _, needs in arrows:
                    asked.update(needs)
            self.assertEqual(self.answer(places.asked_things, book), tuple(sorted(asked)))

    def test_places_at_spots(self):
        for book in BOOKS:
            for spot in support.spots_in_order(book):
                there = tuple([place for place in support.places_in_order(book) if place[:2] == spot])
                self.assertEqual(self.answer(places.all_places_at, book, spot), there)
                inside = tuple([place for place in there if place[2] != -1])
                self.assertEqual(self.answer(places.places_at, book, spot), inside)

    def test_a_book_without_chests(self):
        book = ((("w", (("home", 0, support.NOOK), ("yard", 0, None)), ()),), ())
        self.assertEqual([places.places_of(book), places.places_at(book, (0, 0)), places.asked_things(book)],
                         [(), (), ()])
        self.assertEqual([places.halls_of(book), places.dungeon_spots(book)], [((0, 0, 0),), ((0, 0),)])
        self.assertEqual(places.telling_of(book, ()), ((((), ()),), ()))
        self.assertEqual(places.shuffle_of(book, ((((), ()),), ())), ())
        self.assertEqual(places.laid_at(book, (), (0, 0)), (None, (0,)))


class OfShuffles(support.SameAgain, unittest.TestCase):

    def check_laid(self, book, shuffle):
        contents = dict(zip(support.places_in_order(book), shuffle))
        for place in contents:
            self.assertEqual(self.answer(places.content_at, book, shuffle, place), contents[place])
        for spot in [spot for spot in support.spots_in_order(book) if book[0][spot[0]][1][spot[1]][2] is not None]:
            rooms, keys = book[0][spot[0]][1][spot[1]][2]
            big, small = self.answer(places.laid_at, book, shuffle, spot)
            for v in range(len(rooms)):
                here = [contents[(*spot, v, i)] for i in range(rooms[v][2])]
                self.assertEqual((small[v], big == v), (here.count(("key",)), ("big",) in here))
            self.assertEqual((sum(small), len(small), type(small)), (keys, len(rooms), tuple))
            self.assertEqual(big is None, "bar" not in [room[1] for room in rooms])

    def check_telling(self, book, shuffle):
        lying = list(zip(support.places_in_order(book), shuffle))
        keys, things = telling = self.answer(places.telling_of, book, shuffle)
        spots = [(w, r) for w, r in support.spots_in_order(book) if book[0][w][1][r][2] is not None]
        self.assertEqual(len(keys), len(spots))
        for spot, (big, small) in zip(spots, keys):
            bigs = [place for place, content in lying if content == ("big",) and place[:2] == spot]
            self.assertEqual([big], bigs or [()])
            self.assertEqual(small, tuple([place for place, content in lying if content == ("key",)
                                           and place[:2] == spot]))
        self.assertEqual([dict(lying)[place] for place in things], [("thing", t) for t in range(len(book[1]))])
        self.assertEqual(self.answer(places.shuffle_of, book, telling), shuffle)

    def test_what_lies_where(self):
        for book, shuffle in PAIRS:
            self.check_laid(book, shuffle)
            self.check_telling(book, shuffle)

    def test_all_shuffles_of_small_books_have_tellings_of_their_own(self):
        for book in support.SMALL_BOOKS:
            shuffles = support.all_shuffles(book)
            for shuffle in shuffles:
                self.check_laid(book, shuffle)
                self.check_telling(book, shuffle)
            self.assertEqual(len({places.telling_of(book, shuffle) for shuffle in shuffles}), len(shuffles))

    def test_big_key_and_several_dungeons(self):
        book = ((("w", (("home", 1, support.VAULT), ("keep", 0, support.KEEP)), ()),), (("hook", 0),))
        straw, key, big, hook = ("straw",), ("key",), ("big",), ("thing", 0)
        shuffle = (straw, key, straw, hook, big, key, straw, key, straw)
        self.assertEqual([places.laid_at(book, shuffle, spot) for spot in ((0, 0), (0, 1))],
                         [(2, (1, 0, 0, 1)), (None, (0, 1))])
        telling = ((((0, 0, 2, 0), ((0, 0, 0, 0), (0, 0, 3, 0))), ((), ((0, 1, 1, 0),))), ((0, 0, 1, 0),))
        self.assertEqual(places.telling_of(book, shuffle), telling)
        self.assertEqual(places.shuffle_of(book, telling), shuffle)

    def test_the_same_whatever_was_asked_ahead(self):
        rng = random.Random(5)
        order = [(function, book, shuffle) for book, shuffle in PAIRS[:20]
                 for function in (places.telling_of, lambda book, _: places.places_of(book))]
        first = [function(book, shuffle) for function, book, shuffle in order]
        numbers = list(range(len(order)))
        rng.shuffle(numbers)
        for k in numbers:
            function, book, shuffle = order[k]
            self.assertEqual(function(book, shuffle), first[k])


if __name__ == "__main__":
    unittest.main()
