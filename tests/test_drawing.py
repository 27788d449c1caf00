"""[31], [6]: numbers drawn by coins."""

import itertools
import random
import unittest

from tests import goods, support
from wellstrewn import drawing, numbering
from wellstrewn.errors import NoNumber


def drawn_by_hand(many, coins):
    """Digits are taken again and again, as texts."""
    k = len(bin(many - 1)[2:]) if many > 1 else 0
    digits = "".join(["01"[coin] for coin in coins])
    for used in itertools.count(k, max(k, 1)):
        if used > len(digits):
            return None
        number = int("0" + digits[used - k:used], 2)
        if number < many:
            return (number, used)


class Drawn(support.SameAgain, unittest.TestCase):

    def test_all_rows_of_coins(self):
        seen = set()
        for many in range(1, 19):
            for length in range(9):
                for coins in itertools.product((False, True), repeat=length):
                    right = drawn_by_hand(many, coins)
                    self.assertEqual(repr(drawing.drawn(many, coins)), repr(right))
                    seen.add((many, right and right[0]))
        self.assertEqual(len(seen), sum(range(1, 19)) + 17)

    def test_powers_of_two_and_those_beside_them(self):
        rng = random.Random(210)
        for k in range(1, 12):
            for many in (2 ** k - 1, 2 ** k, 2 ** k + 1):
                for _ in range(12):
                    coins = tuple([rng.random() < 0.6 for _ in range(rng.randint(0, 40))])
                    self.assertEqual(repr(self.answer(drawing.drawn, many, coins)), repr(drawn_by_hand(many, coins)))
        heads = (True,) * 40
        self.assertEqual([drawing.drawn(2 ** k, heads) for k in range(1, 5)], [(1, 1), (3, 2), (7, 3), (15, 4)])
        self.assertEqual([drawing.drawn(2 ** k + 1, heads) for k in range(1, 5)], [None] * 4)
        self.assertEqual([drawing.drawn(2 ** k - 1, heads + (False,) * 9) for k in range(2, 6)],
                         [(0, 42), (4, 42), (0, 44), (0, 45)])

    def test_one_is_drawn_without_coins(self):
        for coins in ((), (True,), (False, True)):
            self.assertEqual(repr(self.answer(drawing.drawn, 1, coins)), "(0, 0)")

    def test_coins_run_out(self):
        for many, coins in [(2, ()), (3, (False,)), (3, (True, True, False)), (5, (True, True, True, False, True)),
                            (1000, (False,) * 9)]:
            self.assertIsNone(self.answer(drawing.drawn, many, coins))

    def test_coins_behind_those_used_do_not_count(self):
        rng = random.Random(211)
        for _ in range(200):
            many = rng.randint(1, 99)
            coins = tuple([rng.random() < 0.5 for _ in range(60)])
            number, used = drawing.drawn(many, coins)
            for more in ((), (True,), (False, False), coins):
                self.assertEqual(drawing.drawn(many, coins[:used] + more), (number, used))
            if used > 0:
                self.assertIsNone(drawing.drawn(many, coins[:used - 1]))

    def test_large_numbers(self):
        rng = random.Random(212)
        many = 3 ** 190
        coins = tuple([rng.random() < 0.5 for _ in range(2000)])
        self.assertEqual(drawing.drawn(many, coins), drawn_by_hand(many, coins))


class Rows(support.SameAgain, unittest.TestCase):

    def check(self, many, length):
        right = [0] * many
        for coins in itertools.product((False, True), repeat=length):
            found = drawn_by_hand(many, coins)
            if found is not None:
                right[found[0]] += 1
        self.assertEqual(repr(self.answer(drawing.rows_of_coins, many, length)), repr(tuple(right)))
        self.assertEqual(len(set(right)), 1)

    def test_all_rows(self):
        for many in range(1, 20):
            for length in range(9):
                self.check(many, length)

    def test_long_rows(self):
        for many, length in [(1, 12), (2, 12), (3, 12), (5, 12), (9, 12), (33, 12), (3, 11), (1, 0), (2, 0), (7, 0)]:
            self.check(many, length)

    def test_length_nought(self):
        self.assertEqual(drawing.rows_of_coins(1, 0), (1,))
        self.assertEqual(drawing.rows_of_coins(4, 0), (0, 0, 0, 0))
        self.assertEqual(drawing.rows_of_coins(4, 1), (0, 0, 0, 0))
        self.assertEqual(drawing.rows_of_coins(4, 2), (1, 1, 1, 1))


class Shuffles(support.SameAgain, unittest.TestCase):

    def test_drawn_by_number(self):
        rng = random.Random(213)
        empty = 0
        for gone in goods.SOME_GOOD:
            for _ in range(6):
                coins = tuple([rng.random() < 0.5 for _ in range(rng.randint(0, 20))])
                right = drawn_by_hand(len(gone.good), coins)
                right = right and (gone.good[right[0]], right[1])
                self.assertEqual(repr(self.answer(drawing.drawn_shuffle, gone.book, coins)), repr(right))
                empty += right is None
        self.assertGreater(empty, 20)

    def test_all_alike_likely(self):
        gone = [gone for gone in goods.SOME_GOOD if 4 < len(gone.good) < 16][0]
        found = {shuffle: 0 for shuffle in gone.good}
        for coins in itertools.product((False, True), repeat=8):
            drawn = drawing.drawn_shuffle(gone.book, coins)
            if drawn is not None:
                found[drawn[0]] += 1
        self.assertEqual(len(set(found.values())), 1)
        self.assertGreater(found[gone.good[0]], 0)

    def test_none_is_good(self):
        for book in (goods.NONE_GOOD, *goods.NO_SHUFFLE):
            for coins in ((), (True, False)):
                with self.assertRaises(NoNumber) as caught:
                    self.answer(drawing.drawn_shuffle, book, coins)
                self.assertEqual(repr(caught.exception.many), "0")

    def test_a_large_book(self):
        rng = random.Random(214)
        book = goods.large_book()
        many = numbering.good_shuffles(book)
        coins = tuple([rng.random() < 0.5 for _ in range(3000)])
        shuffle, used = drawing.drawn_shuffle(book, coins)
        self.assertEqual((numbering.number_of(book, shuffle), used), drawn_by_hand(many, coins))


if __name__ == "__main__":
    unittest.main()
