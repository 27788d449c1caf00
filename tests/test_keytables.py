"""[26], [7]: KEY LAYINGS counted."""

import itertools
import math
import random
import unittest

from tests import support
from tests.test_nets import hand_has_bar, least_by_hand
from wellstrewn import keytables, nets

WORDS = ("any", "key", "big", "other")
GAPS = (((None, None, 0), (0, "lock", 2), (0, "open", 0), (2, "bar", 3), (1, "lock", 1)), 2)
GAPS_PLAIN = (((None, None, 2), (0, "lock", 0), (1, "lock", 1), (0, "open", 0), (3, "open", 2)), 2)
BARE = (((None, None, 0), (0, "bar", 0)), 0)
BARE_PLAIN = (((None, None, 0), (0, "lock", 0)), 0)
LARGE = ((None, None, 3), (0, "lock", 3), (0, "bar", 3), (1, "lock", 3), (1, "open", 3), (2, "open", 3),
         (2, "lock", 3), (4, "lock", 3), (6, "bar", 3), (0, "lock", 3)), 6


def chests_by_hand(dungeon):
    found = []
    for v, room in enumerate(dungeon[0]):
        found += [(v, i) for i in range(room[2])]
    return found


def is_barred(dungeon):
    return "bar" in [room[1] for room in dungeon[0]]


def laid_by_hand(dungeon, laying):
    chests = chests_by_hand(dungeon)
    small = [0] * len(dungeon[0])
    for k in laying[1]:
        small[chests[k][0]] += 1
    return (None if laying[0] is None else chests[laying[0]][0], tuple(small))


class Layings:
    """All KEY LAYINGS of a DUNGEON in their order, and which of them are good."""

    def __init__(self, dungeon):
        self.dungeon = dungeon
        many = len(chests_by_hand(dungeon))
        self.all = []
        for big in range(many) if is_barred(dungeon) else [None]:
            others = [k for k in range(many) if k != big]
            self.all += [(big, small) for small in itertools.combinations(others, dungeon[1])]
        self.kept = {}
        self.good = [laying for laying in self.all if self.is_good(laid_by_hand(dungeon, laying))]

    def is_good(self, laid):
        if laid not in self.kept:
            least = least_by_hand(self.dungeon, laid)
            self.kept[laid] = not hand_has_bar(self.dungeon, laid[0]) and (least is None or least >= 1)
        return self.kept[laid]

    def let(self, sight):
        """The good ones that a SIGHT lets, in their order."""
        return [laying for laying in self.good if is_let(sight, laying)]


def is_let(sight, laying):
    for k, word in enumerate(sight):
        lies = {"key": k in laying[1], "big": k == laying[0], "other": k not in laying[1] and k != laying[0],
                "any": True}
        if not lies[word]:
            return False
    return True


def small_dungeons(seed):
    """DUNGEONS of 1 to 6 rooms and not many chests, with keys from 0 on up to more than there are chests."""
    rng = random.Random(seed)
    found = [GAPS, GAPS_PLAIN, BARE, BARE_PLAIN, support.NOOK, support.KEEP, support.VAULT]
    while len(found) < 60:
        rooms = [(None, None, rng.randint(0, 3))]
        ways = rng.choice((("open", "lock"), ("lock",), ("lock", "lock", "bar", "open"), ("bar", "lock")))
        for v in range(1, rng.randint(1, 6)):
            rooms.append((rng.randrange(v), rng.choice(ways), rng.randint(0, 2)))
        chests = sum([room[2] for room in rooms])
        if chests <= 8:
            found.append((tuple(rooms), rng.choice((0, 1, 1, 2, 2, 3, 4, chests, chests + 1))))
    return found


def some_sights(rng, dungeon, layings):
    """SIGHTS of all words: nothing told, what a KEY LAYING shows in some chests, and words as chance wills."""
    many = len(chests_by_hand(dungeon))
    found = [("any",) * many]
    for _ in range(3):
        found.append(tuple([rng.choice(WORDS[:1] * 4 + WORDS) for _ in range(many)]))
    if layings.all:
        for pool in (layings.all, layings.good or layings.all):
            laying = rng.choice(pool)
            words = ["big" if k == laying[0] else "key" if k in laying[1] else "other" for k in range(many)]
            found.append(tuple([rng.choice(("any", word)) for word in words]))
            found.append(tuple(words))
    if many > 1:
        found += [("big", "big") + ("any",) * (many - 2), ("key",) * many, ("other",) * many]
    return found


def small_cases(seed):
    """DUNGEONS with all their KEY LAYINGS and some SIGHTS."""
    rng = random.Random(seed)
    found = []
    for dungeon in small_dungeons(seed):
        layings = Layings(dungeon)
        found += [(dungeon, layings, sight) for sight in some_sights(rng, dungeon, layings)]
    return found


SMALL = small_cases(70)


class Chests(support.SameAgain, unittest.TestCase):

    def test_chests_in(self):
        self.assertEqual(keytables.chests_in(GAPS), ((1, 0), (1, 1), (3, 0), (3, 1), (3, 2), (4, 0)))
        self.assertEqual([keytables.chests_in(BARE), keytables.chests_in(BARE_PLAIN)], [(), ()])
        for dungeon in small_dungeons(71) + [LARGE]:
            self.assertEqual(self.answer(keytables.chests_in, dungeon), tuple(chests_by_hand(dungeon)))

    def test_laid_by(self):
        self.assertEqual(keytables.laid_by(GAPS, (5, (0, 3))), (4, (0, 1, 0, 1, 0)))
        self.assertEqual(keytables.laid_by(GAPS_PLAIN, (None, (0, 1))), (None, (2, 0, 0, 0, 0)))
        self.assertEqual(keytables.laid_by(BARE_PLAIN, (None, ())), (None, (0, 0)))
        for dungeon in small_dungeons(72):
            for laying in Layings(dungeon).all[::7]:
                self.assertEqual(self.answer(keytables.laid_by, dungeon, laying), laid_by_hand(dungeon, laying))


class IsKeyLaying(support.SameAgain, unittest.TestCase):

    def test_all_key_layings(self):
        seen = set()
        for dungeon, layings, sight in SMALL[::3]:
            right = layings.let(sight)
            for laying in layings.all[::5]:
                self.assertIs(self.says(keytables.is_key_laying, dungeon, sight, laying), laying in right)
                seen.add((laying in layings.good, is_let(sight, laying)))
        self.assertEqual(len(seen), 4)

    def test_wrong_forms(self):
        barred, plain = (support.VAULT[0], 2), (((None, None, 3), (0, "open", 2)), 2)
        any_of = ("any",) * 5
        self.assertTrue(keytables.is_key_laying(barred, any_of, (0, (1, 2))))
        self.assertTrue(keytables.is_key_laying(plain, any_of, (None, (1, 2))))
        for value in [(0, [1, 2]), [0, (1, 2)], (0, (2, 1)), (0, (1, 1)), (0, (0, 1)), (0, (True, 2)), (False, (1, 2)),
                      (0, (1, 5)), (0, (-1, 1)), (5, (1, 2)), (-1, (1, 2)), (None, (1, 2)), (0, (1,)), (0, (1, 2, 3)),
                      (0,), (0, (1, 2), ()), (0, None), ((0,), (1, 2)), ("0", (1, 2)), (0, ("1", "2")), (0, {1: 2})]:
            self.assertFalse(self.says(keytables.is_key_laying, barred, any_of, value), value)
        for value in [(0, (1, 2)), (-1, (1, 2)), (False, (1, 2)), ((), (1, 2)), (None, [1, 2]), (None, (1,)),
                      (None, (0, 1, 2)), (None, (2, 1)), (None, (1, True)), (None, (False, 1))]:
            self.assertFalse(self.says(keytables.is_key_laying, plain, any_of, value), value)

    def test_one_part_otherwise(self):
        for dungeon, layings, sight in SMALL[::20]:
            right = {repr(laying) for laying in layings.let(sight)}
            for laying in layings.good[:3] + layings.all[:1]:
                for other in support.mutants(laying):
                    self.assertIs(self.says(keytables.is_key_laying, dungeon, sight, other), repr(other) in right)

    def test_any_value(self):
        for dungeon, layings, sight in SMALL[::25]:
            right = {repr(laying) for laying in layings.let(sight)}
            for value in support.STRANGE + (dungeon, sight, (None, ()), (0, ())):
                found = self.says(keytables.is_key_laying, dungeon, sight, value)
                self.assertIs(found, repr(value) in right, value)


class Counts(support.SameAgain, unittest.TestCase):

    def check(self, dungeon, sight, right):
        self.assertEqual(repr(self.answer(keytables.count_key_layings, dungeon, sight)), repr(len(right)))
        self.check_bigs(dungeon, sight, right)
        chances = self.answer(keytables.key_chances, dungeon, sight)
        hand = [(len([laying for laying in right if k in laying[1]]), len([laying for laying in right
                                                                          if laying[0] == k]))
                for k in range(len(sight))]
        self.assertEqual(repr(chances), repr(tuple(hand)))
        self.assertEqual(sum([keys for keys, _ in chances]), dungeon[1] * len(right))
        self.assertEqual(sum([bigs for _, bigs in chances]), len(right) if is_barred(dungeon) else 0)

    def check_bigs(self, dungeon, sight, right):
        found = self.answer(keytables.key_counts, dungeon, sight)
        self.assertIs(type(found), dict)
        if not is_barred(dungeon):
            self.assertEqual(list(found.items()), [(-1, len(right))])
            return
        told = [k for k, word in enumerate(sight) if word == "big"]
        chests = [k for k, word in enumerate(sight) if word in ("any", "big") and set(told) <= {k}]
        hand = {k: len([laying for laying in right if laying[0] == k]) for k in chests}
        self.assertEqual(repr(found), repr(hand))

    def test_counts_by_going_through(self):
        seen = set()
        for dungeon, layings, sight in SMALL:
            right = layings.let(sight)
            self.check(dungeon, sight, right)
            seen.add((is_barred(dungeon), right != [], len(layings.all) > 0))
        self.assertEqual(len(seen), 6)

    def test_keys_from_0_on_up_to_more_than_there_are_chests(self):
        for rooms in (support.VAULT[0], GAPS[0], GAPS_PLAIN[0], support.KEEP[0], ((None, None, 2),)):
            many = sum([room[2] for room in rooms])
            for keys in range(many + 3):
                dungeon = (rooms, keys)
                self.check(dungeon, ("any",) * many, Layings(dungeon).good)

    def test_sights_that_let_none(self):
        barred, plain = (support.VAULT[0], 2), (((None, None, 3), (0, "open", 2)), 2)
        any_of = ("any",) * 3
        for dungeon, sight in [(barred, ("big", "big") + any_of), (barred, ("key", "key", "key", "any", "any")),
                               (plain, ("big", "any") + any_of), (plain, ("key", "key", "key", "any", "any")),
                               (plain, ("other",) * 4 + ("any",)), (barred, ("other",) * 5), (plain, ("big",) * 5),
                               (barred, ("big",) * 5)]:
            self.check(dungeon, sight, [])
        self.assertEqual(keytables.key_counts(barred, ("big", "big") + any_of), {})
        self.assertEqual(keytables.key_counts(plain, ("big", "any") + any_of), {-1: 0})
        self.assertEqual(keytables.key_counts(barred, ("key", "big", "other", "any", "any")), {1: 2})
        self.assertEqual(list(keytables.key_counts(barred, any_of + ("key", "other"))), [0, 1, 2])

    def test_counts_of_0_are_told(self):
        dungeon = (((None, None, 1), (0, "bar", 2)), 0)
        self.assertEqual(keytables.key_counts(dungeon, ("any",) * 3), {0: 1, 1: 0, 2: 0})
        self.assertEqual(keytables.key_counts(dungeon, ("any", "any", "big")), {2: 0})

    def test_a_dungeon_without_chests(self):
        self.check(BARE, (), [])
        self.check(BARE_PLAIN, (), Layings(BARE_PLAIN).good)
        self.check((((None, None, 0),), 0), (), [(None, ())])
        self.check((((None, None, 0),), 1), (), [])

    def test_what_is_returned_is_new(self):
        found = keytables.key_counts(support.VAULT, ("any",) * 5)
        before = dict(found)
        found.clear()
        self.assertEqual(keytables.key_counts(support.VAULT, ("any",) * 5), before)


class Large(unittest.TestCase):

    def test_told_chest_by_chest_they_add_up(self):
        any_of = ("any",) * 30
        many = keytables.count_key_layings(LARGE, any_of)
        self.assertGreater(many, 10 ** 5)
        counts = keytables.key_counts(LARGE, any_of)
        chances = keytables.key_chances(LARGE, any_of)
        self.assertEqual((sum(counts.values()), list(counts)), (many, list(range(30))))
        self.assertEqual([bigs for _, bigs in chances], list(counts.values()))
        self.assertEqual(sum([keys for keys, _ in chances]), 6 * many)
        for k in (0, 4, 13, 29):
            rest = [any_of[:k] + (word,) + any_of[k + 1:] for word in ("key", "big", "other")]
            told = [keytables.count_key_layings(LARGE, sight) for sight in rest]
            self.assertEqual(sum(told), many)
            self.assertEqual(tuple(told[:2]), chances[k])

    def test_by_all_laids(self):
        """All numbers of small keys in the rooms are gone through, for each room of the big key."""
        counts = keytables.key_counts(LARGE, ("any",) * 30)
        smalls = [small for small in itertools.product(range(4), repeat=10) if sum(small) == 6]
        for u in range(10):
            many = 0
            for small in smalls:
                if nets.are_keys_good(LARGE, (u, small)):
                    many += math.prod([math.comb(2 if v == u else 3, keys) for v, keys in enumerate(small)])
            self.assertEqual([counts[3 * u + i] for i in range(3)], [many] * 3)

    def test_where_all_that_is_not_told_can_be_gone_through(self):
        rng = random.Random(73)
        found = 0
        for _ in range(12):
            big = rng.choice((0, 1, 2, 3, 13))
            small = sorted(rng.sample([k for k in range(30) if k != big], 6))
            hidden = sorted(rng.sample(small, 3) + rng.sample([k for k in range(30) if k not in small], 6))
            words = ["any" if k in hidden else "big" if k == big else "key" if k in small else "other"
                     for k in range(30)]
            right = self.gone_through(tuple(words))
            self.assertEqual(keytables.count_key_layings(LARGE, tuple(words)), right)
            found += right
        self.assertGreater(found, 100)

    def gone_through(self, sight):
        """How many good KEY LAYINGS of the large DUNGEON a SIGHT lets, those that it lets being gone through."""
        free = [k for k, word in enumerate(sight) if word == "any"]
        keys = [k for k, word in enumerate(sight) if word == "key"]
        kept, many = {}, 0
        for big in [k for k, word in enumerate(sight) if word == "big"] or free:
            left = [k for k in free if k != big]
            for more in itertools.combinations(left, 6 - len(keys)):
                laid = laid_by_hand(LARGE, (big, tuple(sorted(keys + list(more)))))
                if laid not in kept:
                    least = least_by_hand(LARGE, laid)
                    kept[laid] = not hand_has_bar(LARGE, laid[0]) and least >= 1
                many += kept[laid]
        return many


if __name__ == "__main__":
    unittest.main()
