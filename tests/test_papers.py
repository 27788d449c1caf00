"""[24], [25]: papers of good SHUFFLES, and PLAYS to DEAD ENDS."""

import random
import unittest

from tests import reckon, support
from tests.test_gathering import all_of, rounds_by_hand
from tests.test_goodness import GATE, PAIRS, TINY, fault_by_hand, laid_by_hand
from tests.test_nets import table_by_hand
from wellstrewn import papers
from wellstrewn.errors import NotGood

START = ((), (), ())
GOOD = [pair for pair in TINY + PAIRS if fault_by_hand(*pair) is None]
BAD = [pair for pair in TINY + PAIRS if fault_by_hand(*pair) is not None]

# All three things lie together; two of them are enough, and the last one lies where the first two lead.
CAVE = (((None, None, 2), (0, "lock", 1)), 1)
BOOK = ((("w", (("a", 3, None), ("b", 1, None), ("c", 0, CAVE)), ((0, 1, (0,)), (0, 2, (1, 2)), (1, 2, (3,)))),),
        (("t0", 0), ("t1", 0), ("t2", 0), ("t3", 0)))
SHUFFLE = (("thing", 0), ("thing", 1), ("thing", 2), ("thing", 3), ("key",), ("straw",), ("straw",))


def tables_by_hand(book, shuffle):
    return tuple([table_by_hand(*laid_by_hand(book, shuffle, spot)) for spot in sorted(reckon.dungeons(book))])


def rounds_needed(book, shuffle):
    """The ROUNDS from (), as few of the first ones as lead to all SPOTS."""
    rounds = rounds_by_hand(book, shuffle, ())
    for many in range(len(rounds) + 1):
        if support.spots_with(book, all_of(rounds[:many])) == tuple(support.spots_in_order(book)):
            return rounds[:many]
    return None


def are_rounds(book, shuffle, rounds):
    """Whether any value can be the rounds of a PAPER."""
    if type(rounds) is not tuple or not all(type(lot) is tuple and lot for lot in rounds):
        return False
    things = [t for lot in rounds for t in lot]
    if not all(type(t) is int and 0 <= t < len(book[1]) for t in things) or len(set(things)) < len(things):
        return False
    places = {content: place for place, content in reckon.lying(book, shuffle).items()}
    for k, lot in enumerate(rounds):
        reached = support.spots_with(book, all_of(rounds[:k]))
        if list(lot) != sorted(lot) or not all(places[("thing", t)][:2] in reached for t in lot):
            return False
    return support.spots_with(book, things) == tuple(support.spots_in_order(book))


def is_paper(book, shuffle, value):
    if type(value) is not tuple or len(value) != 2 or fault_by_hand(book, shuffle) is not None:
        return False
    return are_rounds(book, shuffle, value[0]) and repr(value[1]) == repr(tables_by_hand(book, shuffle))


class GoodPapers(support.SameAgain, unittest.TestCase):

    def test_papers_of_good_shuffles(self):
        shorter = 0
        for book, shuffle in GOOD:
            paper = self.answer(papers.good_paper, book, shuffle)
            self.assertEqual(repr(paper), repr((rounds_needed(book, shuffle), tables_by_hand(book, shuffle))))
            self.assertTrue(self.says(papers.is_good_paper, book, shuffle, paper))
            shorter += paper[0] != rounds_by_hand(book, shuffle, ())
        self.assertGreater(shorter, 20)

    def test_the_others_have_none(self):
        for book, shuffle in BAD:
            with self.assertRaises(NotGood):
                self.answer(papers.good_paper, book, shuffle)
            tables = tables_by_hand(book, shuffle)
            for rounds in (rounds_by_hand(book, shuffle, ()), (), (tuple(range(len(book[1]))),)):
                self.assertFalse(self.says(papers.is_good_paper, book, shuffle, (rounds, tables)))

    def check(self, book, shuffle, value):
        found = self.says(papers.is_good_paper, book, shuffle, value)
        self.assertIs(found, is_paper(book, shuffle, value), value)
        return found

    def test_other_rounds(self):
        tables = tables_by_hand(BOOK, SHUFFLE)
        self.assertEqual(papers.good_paper(BOOK, SHUFFLE), (((0, 1, 2),), tables))
        rounds = {(): False, ((0,),): False, ((0, 1, 2),): True, ((0, 1, 2), (3,)): True, ((0,), (3,)): True,
                  ((0,), (1,), (2,)): True, ((2,), (1,), (0,)): True, ((1, 2), (0,)): True, ((0,), (1, 2, 3)): True,
                  ((0,), (1, 2), (3,)): True, ((0, 3),): False, ((3,), (0,)): False, ((0, 1), (0, 2)): False,
                  ((0, 1, 2), (0,)): False, ((0, 1, 2), ()): False, ((), (0, 1, 2)): False, ((1, 0, 2),): False,
                  ((0, 1, 2, 2),): False, ((0, 1, 2), (4,)): False, ((0, 1, 2), (-1,)): False, ((1, 2),): False}
        for row, right in rounds.items():
            self.assertIs(self.check(BOOK, SHUFFLE, (row, tables)), right, row)
        for row in [[(0, 1, 2)], ([0, 1, 2],), ((False, 1, 2),), ((0, True, 2),), (("0", 1, 2),), ({0: 1},), None,
                    ((0, 1, 2), None), ((None,),), ((0.5,),)]:
            self.assertFalse(papers.is_good_paper(BOOK, SHUFFLE, (row, tables)), row)

    def test_all_rows_of_lots(self):
        # All ways to part the things among two LOTS, and what is left away.
        tables = tables_by_hand(BOOK, SHUFFLE)
        for one in support.subsets(range(4)):
            for other in support.subsets(range(4)):
                for rounds in ((one,), (one, other), (one, other, (0,))):
                    self.check(BOOK, SHUFFLE, (rounds, tables))

    def test_one_part_otherwise(self):
        for book, shuffle in [(BOOK, SHUFFLE)] + GOOD[:90:18]:
            paper = (rounds_needed(book, shuffle), tables_by_hand(book, shuffle))
            for other in support.mutants(paper):
                self.check(book, shuffle, other)

    def test_tables_of_other_laids(self):
        key, straw = ("key",), ("straw",)
        two = (((None, None, 3), (0, "lock", 1)), 2)
        book = ((("w", (("a", 0, two), ("b", 0, two)), ((0, 1, ()),)),), ())
        one, other = (key, key, straw, straw), (key, straw, straw, key)
        tables = {row: tables_by_hand(book, row + one)[0] for row in (one, other)}
        self.assertNotEqual(tables[one], tables[other])
        for first in (one, other):
            for second in (one, other):
                for guess in [(x, y) for x in (one, other) for y in (one, other)]:
                    thing = ((), (tables[guess[0]], tables[guess[1]]))
                    found = self.says(papers.is_good_paper, book, first + second, thing)
                    self.assertIs(found, guess == (first, second))
        for wrong in (tables[one], (tables[one],), (tables[one],) * 3, [tables[one]] * 2, (tables[one], None)):
            self.assertFalse(papers.is_good_paper(book, one + one, ((), wrong)))

    def test_a_way_to_a_big_key_has_a_bar(self):
        # Each PART of them that is not all rooms has a NET of 1 at least, but the big key lies behind its bar.
        vault = (((None, None, 2), (0, "bar", 1)), 1)
        book = ((("w", (("a", 0, vault),), ()),), ())
        for lying, good in [((("key",), ("big",), ("straw",)), True), ((("key",), ("straw",), ("big",)), False)]:
            thing = ((), tables_by_hand(book, lying))
            self.assertIs(self.says(papers.is_good_paper, book, lying, thing), good)

    def test_any_value(self):
        for book, shuffle in [(BOOK, SHUFFLE)] + GOOD[:40:8] + BAD[:40:8]:
            for value in support.STRANGE + (book, shuffle, ((), ()), ((), (()), ()), [(), ()]):
                self.check(book, shuffle, value)


class DeadPlays(support.SameAgain, unittest.TestCase):

    def leads_to_a_dead_end(self, book, shuffle, value):
        state = START
        for deed in value:
            if repr(deed) not in [repr(other) for other in
                                  reckon.deeds(book, shuffle, state) + reckon.leaves(book, state)]:
                return False
            state = reckon.after(state, deed)
        return reckon.is_stuck(book, shuffle, state)

    def check(self, book, shuffle, value):
        right = type(value) is tuple and self.leads_to_a_dead_end(book, shuffle, value)
        self.assertIs(self.says(papers.is_dead_play, book, shuffle, value), right, value)
        return right

    def test_one_for_each_that_is_not_good(self):
        kinds = set()
        for book, shuffle in BAD:
            play = self.answer(papers.dead_play, book, shuffle)
            self.assertIs(type(play), tuple)
            self.assertNotIn("leave", [word for word, _ in play])
            self.assertTrue(self.check(book, shuffle, play), (book, shuffle))
            kinds.add(fault_by_hand(book, shuffle)[0])
        self.assertEqual(kinds, {"regions", "bar", "net"})

    def test_none_for_the_good_ones(self):
        for book, shuffle in GOOD:
            self.assertIsNone(self.answer(papers.dead_play, book, shuffle))

    def test_many_faults_at_once(self):
        cave = (((None, None, 2), (0, "lock", 1), (0, "lock", 1)), 2)
        regions = (("a", 1, cave), ("b", 0, cave), ("c", 0, GATE), ("d", 1, None))
        straw, key = ("straw",), ("key",)
        book = ((("w", regions, ((0, 1, ()), (1, 2, ()), (2, 3, (0,)))),), (("hook", 0),))
        for cave_rows in [(key, straw, key, straw), (key, key, straw, straw), (straw, key, straw, key)]:
            for gate in [(straw, ("big",)), (("big",), straw)]:
                for hook in (0, 1):
                    ends = [(("thing", 0),), (straw,)][::1 if hook == 0 else -1]
                    shuffle = ends[0] + cave_rows + (key, straw, straw, key) + gate + ends[1]
                    play = papers.dead_play(book, shuffle)
                    self.assertTrue(self.check(book, shuffle, play))

    def test_plays_with_and_without_leaves(self):
        rng = random.Random(62)
        found = [0, 0]
        for book, shuffle in BAD[::3] + GOOD[::9]:
            for leaving in (0, 0.15):
                play = reckon.some_play(rng, book, shuffle, leaving)
                for value in (play, play[:-1], play[1:], list(play), play + (("leave", 0),)):
                    found[self.check(book, shuffle, value)] += 1
        self.assertGreater(min(found), 50)

    def test_one_part_otherwise(self):
        for book, shuffle in BAD[:60:12]:
            play = papers.dead_play(book, shuffle)[:4]
            for value in support.mutants(play) + support.mutants(papers.dead_play(book, shuffle)[-2:]):
                self.check(book, shuffle, value)

    def test_any_value(self):
        for book, shuffle in GOOD[:40:8] + BAD[:40:4]:
            for value in support.STRANGE + (book, shuffle, (("leave", 0),)):
                if value != ():
                    found = self.says(papers.is_dead_play, book, shuffle, value)
                    self.assertIs(found, value == (("leave", 0),) and self.leads_to_a_dead_end(book, shuffle, value))
            self.check(book, shuffle, ())


if __name__ == "__main__":
    unittest.main()
