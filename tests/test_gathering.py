"""[17]: things gathered, all dungeons being thought open."""

import unittest

from tests import support
from wellstrewn import gathering

CHAIN = ((("w", (("a", 2, None), ("b", 1, None), ("c", 1, support.NOOK), ("d", 1, None)),
           ((0, 1, (0,)), (1, 2, (1,)), (2, 3, (0, 2)), (3, 0, ()))),), (("hook", 0), ("lamp", 0), ("rope", 0)))
PAIRS = support.books_with_shuffles(120, 20) + [(CHAIN, shuffle) for shuffle in support.all_shuffles(CHAIN)]


def lying_at(book, shuffle):
    """The dict from things to the SPOTS at which they lie."""
    pairs = zip(support.places_in_order(book), shuffle)
    return {content[1]: place[:2] for place, content in pairs if content[0] == "thing"}


def rounds_by_hand(book, shuffle, held, never=()):
    """ROUND by ROUND, what is found where all that was found ahead is HELD."""
    lying = lying_at(book, shuffle)
    rounds = []
    while True:
        have = set(held) | {t for lot in rounds for t in lot}
        reached = support.spots_with(book, have)
        new = {t for t in lying if lying[t] in reached} - have - set(never)
        if not new:
            return tuple(rounds)
        rounds.append(tuple(sorted(new)))


def all_of(rounds, held=()):
    return tuple(sorted(set(held) | {t for lot in rounds for t in lot}))


class Gathering(support.SameAgain, unittest.TestCase):

    def pairs(self):
        found = [(book, shuffle) for book in support.SMALL_BOOKS for shuffle in support.all_shuffles(book)]
        return found[::3] + PAIRS

    def test_rounds(self):
        many = set()
        for book, shuffle in self.pairs():
            rounds = rounds_by_hand(book, shuffle, ())
            many.add(len(rounds))
            self.assertEqual(self.answer(gathering.rounds_of, book, shuffle), rounds)
            self.assertEqual(self.answer(gathering.gathered, book, shuffle), all_of(rounds))
            whole = support.spots_with(book, all_of(rounds)) == tuple(support.spots_in_order(book))
            self.assertIs(self.says(gathering.leads_on, book, shuffle), whole)
        self.assertTrue({0, 1, 2, 3} <= many)

    def test_rounds_from_what_is_held_ahead(self):
        for book, shuffle in self.pairs():
            for held in support.subsets(range(len(book[1]))):
                rounds = rounds_by_hand(book, shuffle, held)
                self.assertEqual(self.answer(gathering.rounds_from, book, shuffle, held), rounds)
                self.assertEqual(self.answer(gathering.gathered_from, book, shuffle, held), all_of(rounds, held))

    def test_what_is_held_is_in_no_round(self):
        book = ((("w", (("home", 1, None), ("peak", 1, None)), ((0, 1, (0,)),)),), (("hook", 0), ("coin", 0)))
        shuffle = (("thing", 0), ("thing", 1))
        self.assertEqual(gathering.rounds_from(book, shuffle, (0,)), ((1,),))
        self.assertEqual(gathering.rounds_from(book, shuffle, (1,)), ((0,),))
        self.assertEqual(gathering.rounds_from(book, shuffle, (0, 1)), ())
        self.assertEqual(gathering.gathered_from(book, shuffle, (1,)), (0, 1))

    def test_round_of_spot(self):
        found = set()
        for book, shuffle in self.pairs():
            rounds = rounds_by_hand(book, shuffle, ())
            for spot in support.spots_in_order(book):
                ahead = [k for k in range(len(rounds) + 1) if spot in support.spots_with(book, all_of(rounds[:k]))]
                right = ahead[0] if ahead else None
                found.add(right)
                self.assertEqual(repr(self.answer(gathering.round_of_spot, book, shuffle, spot)), repr(right))
        self.assertTrue({0, 1, 2, None} <= found)

    def test_needed_things(self):
        for book, shuffle in self.pairs():
            needed = []
            for t in range(len(book[1])):
                rounds = rounds_by_hand(book, shuffle, (), (t,))
                if support.spots_with(book, all_of(rounds)) != tuple(support.spots_in_order(book)):
                    needed.append(t)
                self.assertIs(self.says(gathering.is_needed, book, shuffle, t), t in needed)
            self.assertEqual(self.answer(gathering.needed_things, book, shuffle), tuple(needed))

    def test_two_ways_to_a_region(self):
        regions = (("home", 3, None), ("peak", 0, None))
        things = (("hook", 0), ("rope", 0), ("coin", 0))
        shuffle = (("thing", 0), ("thing", 1), ("thing", 2))
        for arrows, needed in [(((0, 1, (0,)), (0, 1, (1,))), ()), (((0, 1, (0, 1)),), (0, 1)), (((0, 1, (0,)),), (0,)),
                               (((0, 1, (0, 2)), (0, 1, (1, 2))), (2,)), (((0, 1, ()),), ()), ((), (0, 1, 2))]:
            book = ((("w", regions, arrows),), things)
            self.assertEqual(gathering.needed_things(book, shuffle), needed)

    def test_a_key_inside_a_dungeon_bars_nothing(self):
        book = ((("w", (("home", 0, (((None, None, 1), (0, "lock", 1)), 1)), ("peak", 0, None)), ((0, 1, (0,)),)),),
                (("hook", 0),))
        for shuffle in ((("key",), ("thing", 0)), (("thing", 0), ("key",))):
            self.assertEqual([gathering.rounds_of(book, shuffle), gathering.leads_on(book, shuffle)], [((0,),), True])

    def test_round_rows(self):
        for book, shuffle in self.pairs():
            right = rounds_by_hand(book, shuffle, ())
            self.assertTrue(self.says(gathering.is_round_row, book, shuffle, right))
            for other in support.mutants(right):
                self.assertEqual(self.says(gathering.is_round_row, book, shuffle, other), repr(other) == repr(right),
                                 other)
            others = [right + ((),), ((),) + right, right[::-1], list(right), tuple([list(lot) for lot in right])]
            for other in others:
                self.assertEqual(self.says(gathering.is_round_row, book, shuffle, other), repr(other) == repr(right),
                                 other)

    def test_round_rows_of_any_value(self):
        for book, shuffle in PAIRS[:15]:
            right = rounds_by_hand(book, shuffle, ())
            for value in support.STRANGE + (book, shuffle):
                self.assertEqual(self.says(gathering.is_round_row, book, shuffle, value), repr(value) == repr(right),
                                 value)

    def test_truths_are_no_things(self):
        book = ((("w", (("home", 2, None),), ()),), (("hook", 0), ("coin", 0)))
        shuffle = (("thing", 0), ("thing", 1))
        self.assertTrue(gathering.is_round_row(book, shuffle, ((0, 1),)))
        for other in (((False, True),), ((0, True),), ((False, 1),), ([0, 1],), [(0, 1)], ((1, 0),), ((0,), (1,)),
                      ((0, 1), ())):
            self.assertFalse(gathering.is_round_row(book, shuffle, other))


if __name__ == "__main__":
    unittest.main()
