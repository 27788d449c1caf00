"""[30], [6]: GOOD SHUFFLES numbered."""

import random
import unittest

from tests import goods, support
from wellstrewn import goodness, numbering, places
from wellstrewn.errors import NoNumber, NotGood


class Numbers(support.SameAgain, unittest.TestCase):

    def check_none(self, book, many):
        for n in (many, many + 1, 10 ** 39):
            with self.assertRaises(NoNumber) as caught:
                self.answer(numbering.nth_shuffle, book, n)
            self.assertEqual(repr(caught.exception.many), repr(many))

    def test_how_many(self):
        found = set()
        for gone in goods.TINY:
            self.assertEqual(repr(self.answer(numbering.good_shuffles, gone.book)), repr(len(gone.good)))
            found.add(len(gone.good))
        self.assertGreater(len(found), 20)

    def test_one_by_one(self):
        for gone in goods.TINY:
            step = 1 + len(gone.good) // 40
            for n in range(0, len(gone.good), step):
                self.assertEqual(self.answer(numbering.nth_shuffle, gone.book, n), gone.good[n])
            self.check_none(gone.book, len(gone.good))

    def test_all_numbers_of_some(self):
        for gone in [gone for gone in goods.TINY if 20 < len(gone.good) < 120][::3]:
            found = [numbering.nth_shuffle(gone.book, n) for n in range(len(gone.good))]
            self.assertEqual(found, gone.good)
            self.assertEqual([numbering.number_of(gone.book, shuffle) for shuffle in found], list(range(len(found))))

    def test_number_of(self):
        bad = 0
        for gone in goods.TINY:
            numbers = {shuffle: n for n, shuffle in enumerate(gone.good)}
            for shuffle in gone.all[::1 + len(gone.all) // 40]:
                if shuffle in numbers:
                    found = self.answer(numbering.number_of, gone.book, shuffle)
                    self.assertEqual(repr(found), repr(numbers[shuffle]))
                else:
                    bad += 1
                    with self.assertRaises(NotGood):
                        self.answer(numbering.number_of, gone.book, shuffle)
        self.assertGreater(bad, 300)

    def test_next_good(self):
        between = 0
        for gone in goods.TINY:
            tellings = [gone.tellings[shuffle] for shuffle in gone.good]
            for shuffle in gone.all[::1 + len(gone.all) // 60]:
                telling = gone.tellings[shuffle]
                below = len([other for other in tellings if other < telling])
                self.assertEqual(repr(self.answer(numbering.next_good, gone.book, telling)), repr(below))
                between += shuffle not in gone.good and 0 < below < len(tellings)
        self.assertGreater(between, 200)

    def test_the_least_number_from_there_on(self):
        # What the words behind the colon say: the SHUFFLE with this NUMBER is the next one, GOOD ones themselves.
        for gone in goods.SOME_GOOD[::4]:
            for shuffle in gone.all[::1 + len(gone.all) // 25]:
                n = numbering.next_good(gone.book, gone.tellings[shuffle])
                if n < len(gone.good):
                    self.assertGreaterEqual(gone.tellings[gone.good[n]], gone.tellings[shuffle])
                self.assertIs(n < len(gone.good) and gone.good[n] == shuffle, shuffle in gone.good)

    def test_none_is_good(self):
        gone = goods.Gone(goods.NONE_GOOD)
        self.assertEqual((len(gone.all), gone.good), (2, []))
        self.assertEqual(numbering.good_shuffles(gone.book), 0)
        self.check_none(gone.book, 0)
        for shuffle in gone.all:
            self.assertEqual(repr(numbering.next_good(gone.book, gone.tellings[shuffle])), "0")
            with self.assertRaises(NotGood):
                numbering.number_of(gone.book, shuffle)

    def test_no_shuffle_at_all(self):
        for book in goods.NO_SHUFFLE:
            self.assertEqual(support.all_shuffles(book), [])
            self.assertEqual(repr(self.answer(numbering.good_shuffles, book)), "0")
            self.check_none(book, 0)

    def test_a_book_without_chests(self):
        book = ((("w", (("a", 0, None),), ()),), ())
        self.assertEqual((numbering.good_shuffles(book), numbering.nth_shuffle(book, 0)), (1, ()))
        self.assertEqual((numbering.number_of(book, ()), numbering.next_good(book, ((), ()))), (0, 0))
        self.check_none(book, 1)

    def test_keys_first_then_things(self):
        keep = (((None, None, 2), (0, "lock", 1)), 1)
        book = ((("w", (("a", 0, keep), ("b", 0, keep)), ((0, 1, ()),)),), (("t", 0),))
        tellings = [places.telling_of(book, numbering.nth_shuffle(book, n)) for n in range(16)]
        self.assertEqual(tellings, sorted(tellings))
        self.assertEqual([keys for keys, _ in tellings[:4]], [tellings[0][0]] * 4)
        self.assertEqual([keys[0] for keys, _ in tellings[:8]], [tellings[0][0][0]] * 8)
        self.check_none(book, 16)


class Large(unittest.TestCase):
    """Books as large as the bounds allow."""

    def test_there_and_back(self):
        rng = random.Random(201)
        for asked in (range(6), range(1, 12, 2)):
            book = goods.large_book(asked)
            many = numbering.good_shuffles(book)
            self.assertGreater(many, 10 ** 60)
            last = None
            for n in sorted({0, 1, many // 2, many - 1, rng.randrange(many), rng.randrange(many)}):
                shuffle = numbering.nth_shuffle(book, n)
                self.assertIs(goodness.is_good(book, shuffle), True)
                self.assertEqual(numbering.number_of(book, shuffle), n)
                telling = places.telling_of(book, shuffle)
                self.assertEqual(numbering.next_good(book, telling), n)
                self.assertTrue(last is None or last < telling)
                last = telling
            with self.assertRaises(NoNumber) as caught:
                numbering.nth_shuffle(book, many)
            self.assertEqual(caught.exception.many, many)

    def test_what_is_not_good_has_a_next_one(self):
        rng = random.Random(202)
        book = goods.large_book()
        many = numbering.good_shuffles(book)
        for _ in range(6):
            shuffle = support.some_shuffle(rng, book)
            telling = places.telling_of(book, shuffle)
            n = numbering.next_good(book, telling)
            if n < many:
                self.assertGreaterEqual(places.telling_of(book, numbering.nth_shuffle(book, n)), telling)
            if n > 0:
                self.assertLess(places.telling_of(book, numbering.nth_shuffle(book, n - 1)), telling)


if __name__ == "__main__":
    unittest.main()
