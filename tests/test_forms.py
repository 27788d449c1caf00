"""[2], [12]: the forms of values."""

import math
import unittest

from tests import support
from wellstrewn import forms

NORTH = ("north", (("camp", 1, None), ("keep", 1, support.KEEP), ("peak", 0, support.VAULT)),
         ((0, 1, (0,)), (1, 2, (0, 2)), (0, 1, (0,)), (2, 2, ())))
SOUTH = ("south", (("camp", 3, None),), ())
BOOK = ((NORTH, SOUTH), (("hook", 0), ("coin", 1), ("rope", 0)))


def is_whole(value, least=0, below=None):
    return type(value) is int and value >= least and (below is None or value < below)


def is_label(value):
    small = [chr(k) for k in range(ord("a"), ord("z") + 1)]
    digits = [chr(k) for k in range(ord("0"), ord("9") + 1)]
    return (type(value) is str and len(value) in range(1, 13) and value[:1] in small
            and not [sign for sign in value if sign not in small and sign not in digits])


def right_dungeon(value):
    """What a DUNGEON is, reckoned from the definitions once more."""
    try:
        rooms, keys = value
        good = type(value) is tuple and type(rooms) is tuple and len(rooms) > 0 and is_whole(keys)
        for v, (parent, way, chests) in enumerate(rooms):
            good = good and type(rooms[v]) is tuple and is_whole(chests)
            if v > 0:
                good = good and is_whole(parent, 0, v) and type(way) is str and way in ("open", "lock", "bar")
            else:
                good = good and (parent, way) == (None, None)
        return good
    except (TypeError, ValueError):
        return False


def right_world(value, w, owners):
    name, regions, arrows = value
    good = type(value) is tuple and is_label(name) and type(regions) is tuple and type(arrows) is tuple
    for region in regions:
        label, chests, dungeon = region
        good = good and type(region) is tuple and is_label(label) and is_whole(chests)
        good = good and (dungeon is None or right_dungeon(dungeon))
    for arrow in arrows:
        one, other, needs = arrow
        good = good and type(arrow) is tuple and type(needs) is tuple
        good = good and is_whole(one, 0, len(regions)) and is_whole(other, 0, len(regions))
        good = good and not [t for t in needs if not is_whole(t, 0, len(owners)) or owners[t] != w]
        good = good and sorted(set(needs)) == list(needs)
    return good and len({region[0] for region in regions}) == len(regions) > 0


def right_book(value):
    """What a BOOK is, reckoned from the definitions once more."""
    try:
        worlds, things = value
        good = type(value) is tuple and type(worlds) is tuple and type(things) is tuple and len(worlds) > 0
        for thing in things:
            name, owner = thing
            good = good and type(thing) is tuple and is_label(name) and is_whole(owner, 0, len(worlds))
        good = good and len({thing[0] for thing in things}) == len(things)
        owners = [owner for _, owner in things]
        good = good and not [w for w, world in enumerate(worlds) if not right_world(world, w, owners)]
        return good and len({world[0] for world in worlds}) == len(worlds)
    except (TypeError, ValueError):
        return False


def all_deeds(book):
    return ([("open", place) for place in support.places_in_order(book)]
            + [("unlock", hall) for hall in support.halls_in_order(book)]
            + [("leave", w) for w in range(len(book[0]))])


def all_states(book):
    halls = [(w, r, v) for w, r, v in support.halls_in_order(book) if book[0][w][1][r][2][0][v][1] == "lock"]
    players = range(len(book[0]))
    return [(opened, unlocked, gone) for opened in support.subsets(support.places_in_order(book))
            for unlocked in support.subsets(halls) for gone in support.subsets(players)]


class Simple(support.SameAgain, unittest.TestCase):

    def test_integers(self):
        for value in (0, 1, -1, 10 ** 39, -10 ** 39):
            self.assertTrue(self.says(forms.is_integer, value))
        for value in support.STRANGE:
            self.assertEqual(self.says(forms.is_integer, value), type(value) is int)

    def test_names(self):
        for value in ("a", "z", "a0", "z9", "cave2", "a" * 12, "a1b2c3d4e5f6"):
            self.assertTrue(self.says(forms.is_name, value))
        for value in ("", "a" * 13, "2cave", "Cave", "caVe", "a b", " a", "a ", "a_b", "a-b", "a\n", "a`", "a{", "a/",
                      "a:",
                      "\u00e4", "a\u00b2", "a\u0663", ("a",), ["a"], b"a"):
            self.assertFalse(self.says(forms.is_name, value))
        for value in support.STRANGE:
            self.assertEqual(self.says(forms.is_name, value), value == "a" or value == "straw")

    def test_fractions(self):
        for n in range(-12, 13):
            for d in range(-3, 13):
                right = d > 0 and not [k for k in range(2, 30) if n % k == 0 and d % k == 0]
                self.assertEqual(self.says(forms.is_fraction, (n, d)), right)
        for value in ((True, 1), (1, True), [1, 2], (1,), (1, 2, 3), ("1", 2), (1, None), (False, 1), (0, 0)):
            self.assertFalse(self.says(forms.is_fraction, value))
        for value in support.STRANGE:
            self.assertEqual(self.says(forms.is_fraction, value), value == (0, 1) and type(value) is tuple)
        self.assertTrue(self.says(forms.is_fraction, (10 ** 39, 10 ** 39 + 1)))

    def test_reduced(self):
        for n in [*range(-40, 41), 10 ** 40, -10 ** 40, 6 ** 30]:
            for d in [*range(1, 25), 10 ** 40, 10 ** 39, 4 ** 30]:
                one, other = self.answer(forms.reduced, n, d)
                self.assertEqual((one * d, math.gcd(one, other), other > 0), (n * other, 1, True))
                self.assertTrue(forms.is_fraction((one, other)))
        self.assertEqual([forms.reduced(0, 1), forms.reduced(0, 9), forms.reduced(7, 7)], [(0, 1), (0, 1), (1, 1)])
        self.assertEqual([forms.reduced(-6, 4), forms.reduced(-5, 5)], [(-3, 2), (-1, 1)])


class Dungeons(support.SameAgain, unittest.TestCase):

    def test_good_ones(self):
        long = ((None, None, 0),) + tuple([(v, "lock", 9) for v in range(14)])
        for value in (support.NOOK, support.KEEP, support.VAULT, (support.KEEP[0], 99), (long, 0)):
            self.assertTrue(self.says(forms.is_dungeon, value))

    def test_each_part_otherwise(self):
        for value in (support.NOOK, support.KEEP, support.VAULT):
            for other in support.mutants(value):
                self.assertEqual(self.says(forms.is_dungeon, other), right_dungeon(other), other)

    def test_wrong_ones(self):
        first = (None, None, 1)
        for rooms in ((), (first, first), (first, (1, "open", 0)), (first, (2, "open", 0), (0, "open", 0)),
                      (first, (-1, "open", 0)), (first, (0, "door", 0)), (first, (0, None, 0)),
                      (first, (0, "open", -1)),
                      ((0, "open", 1),), ((None, "open", 1),), ((0, None, 1),), (first, (False, "open", 0)),
                      ((None, None, True),), (first, (None, "open", 0)), (first, (0, ("open",), 0))):
            self.assertFalse(self.says(forms.is_dungeon, (rooms, 0)))
        for keys in (-1, True, None, "1", (1,)):
            self.assertFalse(self.says(forms.is_dungeon, ((first,), keys)))
        for value in support.STRANGE:
            self.assertFalse(self.says(forms.is_dungeon, value))


class Books(support.SameAgain, unittest.TestCase):

    def test_good_ones(self):
        for value in support.SMALL_BOOKS + (BOOK,) + tuple(support.some_books(60, 1)):
            self.assertTrue(self.says(forms.is_book, value))

    def test_bounds_are_not_asked(self):
        regions = tuple([("r%d" % r, 50, support.VAULT) for r in range(30)])
        worlds = tuple([("w%d" % w, regions, ((0, 1, tuple(range(w * 9, w * 9 + 9))),) * 40) for w in range(8)])
        self.assertTrue(self.says(forms.is_book, (worlds, tuple([("t%d" % t, t // 9) for t in range(72)]))))

    def test_each_part_otherwise(self):
        for value in (BOOK,) + support.SMALL_BOOKS:
            for other in support.mutants(value):
                self.assertEqual(self.says(forms.is_book, other), right_book(other), other)

    def test_wrong_ones(self):
        camp = ("camp", 1, None)
        for world in (("n", (), ()), ("n", (camp, camp), ()), ("N", (camp,), ()), ("n", (camp,), ((0, 1, ()),)),
                      ("n", (camp,), ((0, 0, (1,)),)), ("n", (camp,), ((0, 0, (0, 0)),)),
                      ("n", (camp,), ((0, 0, (3,)), )),
                      ("n", (camp,), ((0, 0, (2, 0)),)), ("n", (camp,), ((-1, 0, ()),)), ("n", (camp,), ((0, 0, [0]),)),
                      ("n", (("1", 1, None),), ()), ("n", (("camp", -1, None),), ()), ("n", (("camp", 1, ()),), ()),
                      ("n", (camp,), ((0, 0, (False,)),)), ("n", (camp,), ((False, 0, ()),)), ("n", (camp,), [])):
            self.assertFalse(self.says(forms.is_book, ((world, SOUTH), BOOK[1])))
        for things in ((("hook", 2),), (("hook", -1),), (("hook", True),), (("hook", 0), ("hook", 1)), (("", 0),),
                       None):
            self.assertFalse(self.says(forms.is_book, ((SOUTH, ("n", (camp,), ())), things)))
        self.assertFalse(self.says(forms.is_book, ((SOUTH, SOUTH), ())))
        self.assertFalse(self.says(forms.is_book, ((), ())))
        for value in support.STRANGE:
            self.assertFalse(self.says(forms.is_book, value))


class OfABook(support.SameAgain, unittest.TestCase):

    def check(self, function, book, right, good):
        """That a function tells True of just the right values, of like and strange ones; repr tells all kinds apart."""
        known = {repr(value) for value in right}
        for value in good:
            self.assertIn(repr(value), known)
            self.assertTrue(self.says(function, book, value))
            for other in support.mutants(value):
                self.assertEqual(self.says(function, book, other), repr(other) in known, other)
        for value in support.STRANGE + (book,):
            self.assertEqual(self.says(function, book, value), repr(value) in known, value)

    def test_contents(self):
        for book in support.SMALL_BOOKS + (BOOK,):
            right = [("straw",), ("key",), ("big",)] + [("thing", t) for t in range(len(book[1]))]
            self.check(forms.is_content, book, right, right)
            for value in (("thing", len(book[1])), ("thing", -1), ("thing", True), ("thing",), ("key", 0),
                          ("straw", 0), "key"):
                self.assertEqual(self.says(forms.is_content, book, value),
                                 repr(value) in [repr(good) for good in right])

    def test_shuffles(self):
        for book in support.SMALL_BOOKS:
            right = support.all_shuffles(book)
            self.check(forms.is_shuffle, book, right, right[::max(1, len(right) // 12)])
            for value in right:
                self.assertTrue(forms.is_shuffle(book, value))

    def test_shuffles_of_greater_books(self):
        for book, shuffle in support.books_with_shuffles(40, 2):
            self.assertTrue(self.says(forms.is_shuffle, book, shuffle))
            self.assertFalse(self.says(forms.is_shuffle, book, shuffle + (("straw",),)))
            self.assertFalse(self.says(forms.is_shuffle, book, list(shuffle)))

    def test_keys_lie_where_they_belong(self):
        book = ((("w", (("home", 2, support.VAULT), ("keep", 1, support.KEEP)), ()),), (("hook", 0),))
        straw, key, big, hook = ("straw",), ("key",), ("big",), ("thing", 0)
        good = (hook, straw, key, key, big, straw, straw, straw, key, straw, straw)
        self.assertTrue(self.says(forms.is_shuffle, book, good))
        swaps = [(0, 1, True), (0, 5, True), (4, 6, True), (1, 2, False), (1, 4, False), (7, 8, False), (4, 9, False),
                 (4, 8, False), (5, 8, False), (2, 3, True), (5, 6, True), (2, 9, False), (0, 8, False)]
        for one, other, right in swaps:
            row = list(good)
            row[one], row[other] = row[other], row[one]
            self.assertEqual(self.says(forms.is_shuffle, book, tuple(row)), right, (one, other))
        for k, content, right in [(5, key, False), (5, big, False), (2, straw, False), (4, straw, False),
                                  (0, straw, False),
                                  (1, hook, False), (4, key, False), (2, big, False), (1, key, False), (1, big, False),
                                  (9, big, False), (9, key, False), (8, big, False), (1, straw, True)]:
            self.assertEqual(self.says(forms.is_shuffle, book, support.changed_at(good, k, content)), right,
                             (k, content))

    def test_deeds(self):
        for book in support.SMALL_BOOKS + (BOOK,):
            right = all_deeds(book)
            self.check(forms.is_deed, book, right, right)
            for value in (("leave", len(book[0])), ("leave", -1), ("leave", False), ("leave", (0,)), ("open", 0),
                          ("open", (0, 0, -1, 9)), ("open", (0, 0, -2, 0)), ("open", (9, 0, -1, 0)),
                          ("unlock", (0, 0, 0, 0)),
                          ("unlock", (0, 9, 0)), ("unlock", (0, 0, -1)), ("open", (0, False, -1, 0)), ("shut", 0),
                          ("open",)):
                self.assertFalse(self.says(forms.is_deed, book, value))

    def test_states(self):
        for book in support.SMALL_BOOKS:
            right = all_states(book)
            self.check(forms.is_state, book, right, right[::max(1, len(right) // 12)])
            for value in right:
                self.assertTrue(forms.is_state(book, value))

    def test_states_of_greater_books(self):
        opened = tuple(support.places_in_order(BOOK))
        locked = ((0, 1, 1), (0, 2, 1))
        self.assertTrue(self.says(forms.is_state, BOOK, (opened, locked, (0, 1))))
        for state in ((opened[::-1], (), ()), (opened + opened[-1:], (), ()), ((), ((0, 2, 2),), ()),
                      ((), ((0, 1, 0), ), ()),
                      ((), ((0, 2, 3),), ()), ((), (), (2,)), ((), (), (1, 0)), ((), (), (True,)), ((), (), (-1,)),
                      (((0, 0, -1, 1),), (), ()), (((0, 0, 0, 0),), (), ()), (((0, True, 0, 0),), (), ()),
                      (((0, 1, 0),), (), ()), ((), ((0, 1, 1, 0),), ()), ((), ()), ((), (), (), ()), [(), (), ()],
                      ([], (), ()), ((), [], ()), ((), (), []), (((),), (), ()), ((None,), (), ()), ((), (None,), ())):
            self.assertFalse(self.says(forms.is_state, BOOK, state))


if __name__ == "__main__":
    unittest.main()
