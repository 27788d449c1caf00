"""[27], [6]: KEY LAYINGS numbered."""

import math
import random
import unittest

from tests import support
from tests.test_keytables import BARE, BARE_PLAIN, GAPS, LARGE, SMALL, chests_by_hand, is_barred, small_dungeons
from tests.test_keytables import Layings
from wellstrewn import keylayings, keytables
from wellstrewn.errors import NoNumber, NotGood, TooMany


def less(one, other):
    """Whether a KEY LAYING is less than another one of the same DUNGEON."""
    bigs = [() if laying[0] is None else (laying[0],) for laying in (one, other)]
    return (bigs[0], one[1]) < (bigs[1], other[1])


class Numbers(support.SameAgain, unittest.TestCase):

    def check_none(self, dungeon, sight, many):
        for n in (many, many + 1, many + 1000, 10 ** 39):
            with self.assertRaises(NoNumber) as caught:
                self.answer(keylayings.nth_key_laying, dungeon, sight, n)
            self.assertEqual(repr(caught.exception.many), repr(many))

    def test_there_and_back_over_all_numbers(self):
        found = 0
        for dungeon, layings, sight in SMALL:
            right = layings.let(sight)
            for n in range(0, len(right), 1 + len(right) // 25):
                laying = self.answer(keylayings.nth_key_laying, dungeon, sight, n)
                self.assertEqual(repr(laying), repr(right[n]))
                self.assertEqual(repr(self.answer(keylayings.key_laying_number, dungeon, sight, laying)), repr(n))
                found += 1
            self.check_none(dungeon, sight, len(right))
        self.assertGreater(found, 400)

    def test_all_numbers_of_some(self):
        for dungeon, layings, sight in SMALL[::12]:
            right = layings.let(sight)
            self.assertEqual([keylayings.nth_key_laying(dungeon, sight, n) for n in range(len(right))], right)
            self.assertEqual([keylayings.key_laying_number(dungeon, sight, laying) for laying in right],
                             list(range(len(right))))

    def test_below_any_key_laying(self):
        seen = set()
        for dungeon, layings, sight in SMALL:
            right = layings.let(sight)
            for laying in layings.all[::1 + len(layings.all) // 20]:
                below = len([other for other in right if less(other, laying)])
                found = self.answer(keylayings.key_layings_below, dungeon, sight, laying)
                self.assertEqual(repr(found), repr(below))
                seen.add((laying in layings.good, laying in right, 0 < below < len(right)))
        self.assertEqual(len(seen), 6)

    def test_not_good(self):
        found = 0
        for dungeon, layings, sight in SMALL[::2]:
            right = layings.let(sight)
            for laying in [laying for laying in layings.all if laying not in right][::9]:
                with self.assertRaises(NotGood):
                    self.answer(keylayings.key_laying_number, dungeon, sight, laying)
                found += 1
        self.assertGreater(found, 300)

    def test_large_ones_at_both_ends_and_in_the_midst(self):
        rng = random.Random(80)
        any_of = ("any",) * 30
        many = keytables.count_key_layings(LARGE, any_of)
        numbers = [0, 1, many // 3, many // 2, many - 2, many - 1] + [rng.randrange(many) for _ in range(4)]
        last = None
        for n in sorted(numbers):
            laying = keylayings.nth_key_laying(LARGE, any_of, n)
            self.assertTrue(keytables.is_key_laying(LARGE, any_of, laying))
            self.assertEqual(keylayings.key_laying_number(LARGE, any_of, laying), n)
            self.assertTrue(last is None or less(last, laying))
            last = laying
        self.check_none(LARGE, any_of, many)
        # The first ones follow each other with none between.
        row = [keylayings.nth_key_laying(LARGE, any_of, n) for n in range(30)]
        self.assertEqual([keylayings.key_layings_below(LARGE, any_of, laying) for laying in row], list(range(30)))

    def test_large_ones_below_those_that_are_not_good(self):
        any_of = ("any",) * 30
        many = keytables.count_key_layings(LARGE, any_of)
        counts = keytables.key_counts(LARGE, any_of)
        for laying, below in [((0, tuple(range(1, 7))), 0), ((29, tuple(range(23, 29))), many),
                              ((7, tuple(range(6))), sum([counts[k] for k in range(7)]))]:
            self.assertEqual(keylayings.key_layings_below(LARGE, any_of, laying), below)

    def test_large_ones_with_a_sight(self):
        sight = ("any", "other", "key") + ("any",) * 10 + ("other",) + ("any",) * 7 + ("key",) + ("any",) * 8
        many = keytables.count_key_layings(LARGE, sight)
        self.assertGreater(many, 100)
        for n in (0, many // 2, many - 1):
            laying = keylayings.nth_key_laying(LARGE, sight, n)
            self.assertTrue(keytables.is_key_laying(LARGE, sight, laying))
            self.assertEqual(keylayings.key_laying_number(LARGE, sight, laying), n)

    def test_no_chests_and_no_keys(self):
        self.check_none(BARE, (), 0)
        self.assertEqual(keylayings.nth_key_laying((((None, None, 0),), 0), (), 0), (None, ()))
        self.assertEqual(keylayings.key_laying_number((((None, None, 0),), 0), (), (None, ())), 0)
        self.check_none((((None, None, 0),), 0), (), 1)
        self.check_none((((None, None, 0),), 1), (), 0)
        self.check_none(BARE_PLAIN, (), len(Layings(BARE_PLAIN).good))


class All(support.SameAgain, unittest.TestCase):

    def check_too_many(self, dungeon, sight, most):
        with self.assertRaises(TooMany) as caught:
            self.answer(keylayings.all_key_layings, dungeon, sight, most)
        self.assertEqual(repr(caught.exception.most), repr(most))

    def test_all_in_their_order(self):
        for dungeon, layings, sight in SMALL:
            right = layings.let(sight)
            for most in (len(layings.all), len(layings.all) + 1, 20000):
                found = self.answer(keylayings.all_key_layings, dungeon, sight, most)
                self.assertEqual((type(found), repr(found)), (list, repr(right)))
            self.assertTrue(all(less(one, other) for one, other in zip(right, right[1:])))

    def test_too_many(self):
        for dungeon, layings, sight in SMALL:
            many = len(layings.all)
            for most in {most for most in (0, 1, many // 2, many - 1) if 0 <= most < many}:
                self.check_too_many(dungeon, sight, most)

    def test_most_of_0(self):
        self.assertEqual(keylayings.all_key_layings(BARE, (), 0), [])
        self.assertEqual(keylayings.all_key_layings((((None, None, 1),), 2), ("any",), 0), [])
        # The one KEY LAYING counts, though no SIGHT here lets it.
        self.check_too_many((((None, None, 1),), 1), ("other",), 0)
        self.check_too_many((((None, None, 0),), 0), (), 0)
        self.check_too_many((((None, None, 1), (0, "bar", 0)), 0), ("other",), 0)
        self.assertEqual(keylayings.all_key_layings((((None, None, 1), (0, "bar", 0)), 0), ("any",), 1), [(0, ())])

    def test_large_ones(self):
        any_of = ("any",) * 30
        self.check_too_many(LARGE, any_of, 20000)
        self.check_too_many(LARGE, ("big",) + ("key",) * 6 + ("other",) * 23, 20000)
        rooms = (((None, None, 3), (0, "lock", 3), (1, "bar", 3), (0, "open", 3), (3, "lock", 3), (3, "open", 1)), 3)
        many = 16 * math.comb(15, 3)
        self.check_too_many(rooms, ("any",) * 16, many - 1)
        found = keylayings.all_key_layings(rooms, ("any",) * 16, many)
        self.assertEqual(len(found), keytables.count_key_layings(rooms, ("any",) * 16))
        self.assertGreater(len(found), 1000)
        for n in range(0, len(found), 197):
            self.assertEqual(keylayings.nth_key_laying(rooms, ("any",) * 16, n), found[n])

    def test_each_has_one_number(self):
        for dungeon in small_dungeons(81)[::4]:
            any_of = ("any",) * len(chests_by_hand(dungeon))
            found = keylayings.all_key_layings(dungeon, any_of, 20000)
            numbers = [keylayings.key_laying_number(dungeon, any_of, laying) for laying in found]
            self.assertEqual(numbers, list(range(keytables.count_key_layings(dungeon, any_of))))

    def test_what_is_returned_is_new(self):
        found = keylayings.all_key_layings(GAPS, ("any",) * 6, 100)
        before = list(found)
        found.clear()
        self.assertEqual(keylayings.all_key_layings(GAPS, ("any",) * 6, 100), before)
        self.assertIs(is_barred(GAPS), True)


if __name__ == "__main__":
    unittest.main()
