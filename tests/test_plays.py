"""[20], [21]: STATES and DEEDS."""

import random
import unittest

from tests import reckon, support
from wellstrewn import plays
from wellstrewn.errors import NoDeed

START = ((), (), ())
PAIRS = support.books_with_shuffles(45, 40)
PAIRS += [(book, shuffle) for book in support.SMALL_BOOKS for shuffle in support.all_shuffles(book)[::5]]

# Two players: the hook lies with the other one, whose keep has a lock, and a bar behind it.
KEEP = (((None, None, 2), (0, "lock", 1), (1, "bar", 1)), 1)
NORTH = ("north", (("camp", 1, None), ("cave", 0, None)), ((0, 1, (0,)),))
SOUTH = ("south", (("yard", 1, None), ("keep", 0, KEEP)), ((0, 1, (1,)),))
BOOK = ((NORTH, SOUTH), (("hook", 0), ("lamp", 1)))
SHUFFLE = (("thing", 1), ("straw",), ("key",), ("big",), ("thing", 0), ("straw",))


def any_states(seed, many):
    """STATES of all PAIRS, each with its book and shuffle; some have small keys IN HAND below 0."""
    rng = random.Random(seed)
    found = []
    for book, shuffle in PAIRS:
        players = tuple(range(len(book[0])))
        found += [(book, shuffle, START), (book, shuffle, ((), (), players))]
        found += [(book, shuffle, reckon.some_state(rng, book)) for _ in range(many)]
    return found


def all_deeds(book):
    """All DEEDS in their form."""
    return ([("open", place) for place in support.places_in_order(book)]
            + [("unlock", hall) for hall in support.halls_in_order(book)]
            + [("leave", w) for w in range(len(book[0]))])


class States(support.SameAgain, unittest.TestCase):

    def test_start_state(self):
        self.assertEqual(self.answer(plays.start_state), START)

    def test_what_is_held(self):
        below = False
        for book, shuffle, state in any_states(41, 6):
            self.assertEqual(self.answer(plays.held_in, book, shuffle, state), reckon.held(book, shuffle, state))
            self.assertEqual(self.answer(plays.big_keys, book, shuffle, state), reckon.bigs(book, shuffle, state))
            keys = self.answer(plays.keys_in_hand, book, shuffle, state)
            self.assertEqual(repr(keys), repr(reckon.in_hand(book, shuffle, state)))
            below = below or min(keys.values(), default=0) < 0
        self.assertTrue(below)

    def test_what_is_reached(self):
        for book, shuffle, state in any_states(42, 6):
            self.assertEqual(self.answer(plays.spots_in, book, shuffle, state), reckon.spots(book, shuffle, state))
            self.assertEqual(self.answer(plays.halls_in, book, shuffle, state), reckon.halls(book, shuffle, state))
            found = self.answer(plays.reached_places, book, shuffle, state)
            self.assertEqual(found, reckon.places(book, shuffle, state))

    def test_whole_and_dead_ends(self):
        seen = set()
        for book, shuffle, state in any_states(43, 6):
            whole = reckon.left_open(book, shuffle, state) == ((), ())
            stuck = reckon.is_stuck(book, shuffle, state)
            self.assertIs(self.says(plays.is_whole, book, shuffle, state), whole)
            self.assertIs(self.says(plays.is_dead_end, book, shuffle, state), stuck)
            seen.add((whole, stuck, state[2] == ()))
        self.assertEqual(len(seen), 6)

    def test_all_players_gone(self):
        for book, shuffle in PAIRS:
            state = ((), (), tuple(range(len(book[0]))))
            self.assertIs(plays.is_whole(book, shuffle, state), True)
            self.assertIs(plays.is_dead_end(book, shuffle, state), False)
            self.assertEqual(plays.deeds_of(book, shuffle, state), ())
            self.assertEqual(plays.held_in(book, shuffle, state), tuple(range(len(book[1]))))

    def test_who_leaves_hands_out_things_but_no_keys(self):
        state = ((), (), (1,))
        self.assertEqual(plays.held_in(BOOK, SHUFFLE, state), (0,))
        self.assertEqual(plays.spots_in(BOOK, SHUFFLE, state), ((0, 0), (0, 1), (1, 0)))
        self.assertEqual([plays.big_keys(BOOK, SHUFFLE, state), plays.keys_in_hand(BOOK, SHUFFLE, state)],
                         [(), {(1, 1): 0}])
        self.assertEqual([plays.is_whole(BOOK, SHUFFLE, state), plays.is_dead_end(BOOK, SHUFFLE, state)],
                         [True, False])
        self.assertEqual(plays.deeds_of(BOOK, SHUFFLE, state), (("open", (0, 0, -1, 0)),))

    def test_worlds_of_players_who_are_gone_are_reached_likewise(self):
        state = (((0, 0, -1, 0), (1, 1, 0, 0), (1, 1, 0, 1)), ((1, 1, 1),), (1,))
        self.assertEqual(plays.halls_in(BOOK, SHUFFLE, state), ((1, 1, 0), (1, 1, 1), (1, 1, 2)))
        self.assertEqual(plays.reached_places(BOOK, SHUFFLE, state), tuple(support.places_in_order(BOOK)))
        self.assertEqual(plays.deeds_of(BOOK, SHUFFLE, state), ())

    def test_keys_below_0_open_nothing(self):
        keep = (((None, None, 2), (0, "lock", 0), (0, "lock", 0), (0, "lock", 0)), 2)
        book = ((("w", (("home", 0, keep),), ()),), ())
        shuffle = (("key",), ("key",))
        for opened, unlocked, hand in [((0,), (1, 2), -1), ((0, 1), (1, 2), 0), ((), (3,), -1), ((0, 1), (2,), 1)]:
            state = (tuple([(0, 0, 0, i) for i in opened]), tuple([(0, 0, v) for v in unlocked]), ())
            self.assertEqual(plays.keys_in_hand(book, shuffle, state), {(0, 0): hand})
            locks = [deed for deed in plays.deeds_of(book, shuffle, state) if deed[0] == "unlock"]
            self.assertEqual(len(locks), 3 - len(unlocked) if hand > 0 else 0)

    def test_a_hall_that_was_unlocked_though_its_parent_is_not_reached(self):
        chain = (((None, None, 1), (0, "lock", 1), (1, "lock", 0)), 2)
        book = ((("w", (("home", 0, chain),), ()),), ())
        shuffle = (("key",), ("key",))
        state = ((), ((0, 0, 2),), ())
        self.assertEqual(plays.halls_in(book, shuffle, state), ((0, 0, 0),))
        self.assertEqual(plays.halls_in(book, shuffle, ((), ((0, 0, 1), (0, 0, 2)), ())),
                         ((0, 0, 0), (0, 0, 1), (0, 0, 2)))


class Deeds(support.SameAgain, unittest.TestCase):

    def check_done(self, book, shuffle, state, deed, may):
        self.assertIs(self.says(plays.may_do, book, shuffle, state, deed), may)
        if may:
            self.assertEqual(self.answer(plays.done, book, shuffle, state, deed), reckon.after(state, deed))
            return
        with self.assertRaises(NoDeed) as caught:
            plays.done(book, shuffle, state, deed)
        self.assertEqual(repr(caught.exception.index), "0")

    def test_deeds_of(self):
        for book, shuffle, state in any_states(44, 6):
            self.assertEqual(self.answer(plays.deeds_of, book, shuffle, state), reckon.deeds(book, shuffle, state))

    def test_may_do_and_done(self):
        for book, shuffle, state in any_states(45, 2)[::2]:
            right = reckon.deeds(book, shuffle, state) + reckon.leaves(book, state)
            for deed in all_deeds(book):
                self.check_done(book, shuffle, state, deed, deed in right)

    def test_deeds_that_may_not_be_done(self):
        opened = ((0, 0, -1, 0), (1, 1, 0, 0), (1, 1, 0, 1))
        state = (opened, (), ())
        for deed, may in [(("unlock", (1, 1, 0)), False), (("unlock", (1, 1, 2)), False), (("unlock", (1, 1, 1)), True),
                          (("open", (1, 1, 1, 0)), False), (("open", (1, 1, 0, 0)), False), (("leave", 0), True)]:
            self.check_done(BOOK, SHUFFLE, state, deed, may)
        for deed in all_deeds(BOOK):
            self.check_done(BOOK, SHUFFLE, (opened, ((1, 1, 1),), (1,)), deed, deed == ("leave", 0))


class Plays(support.SameAgain, unittest.TestCase):

    def check_error(self, book, shuffle, play, index):
        for function in (plays.run, plays.states_of):
            for row in (list(play), tuple(play)):
                with self.assertRaises(NoDeed) as caught:
                    self.answer(function, book, shuffle, row)
                self.assertEqual(repr(caught.exception.index), repr(index))
        self.assertIs(self.says(plays.is_play, book, shuffle, tuple(play)), False)

    def check_play(self, book, shuffle, play):
        states = [START]
        for deed in play:
            states.append(reckon.after(states[-1], deed))
        for row in (list(play), tuple(play)):
            self.assertEqual(self.answer(plays.run, book, shuffle, row), states[-1])
            found = self.answer(plays.states_of, book, shuffle, row)
            self.assertEqual((type(found), found), (list, states))
        self.assertIs(self.says(plays.is_play, book, shuffle, tuple(play)), True)
        self.assertIs(self.says(plays.is_play, book, shuffle, list(play)), False)

    def first_barred(self, book, shuffle, play):
        """The index of the first DEED that may not be done, None if there is none."""
        state = START
        for k, deed in enumerate(play):
            if deed not in reckon.deeds(book, shuffle, state) + reckon.leaves(book, state):
                return k
            state = reckon.after(state, deed)
        return None

    def check(self, book, shuffle, play):
        index = self.first_barred(book, shuffle, play)
        if index is None:
            self.check_play(book, shuffle, play)
        else:
            self.check_error(book, shuffle, play, index)

    def test_no_deed(self):
        for book, shuffle in PAIRS[:9]:
            self.check_play(book, shuffle, ())

    def test_plays_with_and_without_leaves(self):
        rng = random.Random(46)
        for book, shuffle in PAIRS:
            for leaving in (0, 0.3):
                play = reckon.some_play(rng, book, shuffle, leaving)
                self.check_play(book, shuffle, play)
                self.check_play(book, shuffle, play[:len(play) // 2])

    def test_one_deed_left_out_exchanged_or_twice(self):
        rng = random.Random(47)
        for book, shuffle in PAIRS[::4] + [(BOOK, SHUFFLE)]:
            play = reckon.some_play(rng, book, shuffle, 0.1, 12)
            for k, deed in enumerate(play):
                self.check(book, shuffle, play[:k] + play[k + 1:])
                self.check_error(book, shuffle, play[:k + 1] + (deed,), k + 1)
                self.check(book, shuffle, play[:k] + play[k + 1:] + (deed,))
                self.check(book, shuffle, support.changed_at(play, k, rng.choice(all_deeds(book))))

    def test_deeds_of_a_player_who_left(self):
        first = (("leave", 0),)
        self.check_error(BOOK, SHUFFLE, first + (("open", (0, 0, -1, 0)),), 1)
        self.check_error(BOOK, SHUFFLE, first + (("leave", 0),), 1)
        self.check_play(BOOK, SHUFFLE, first + (("leave", 1),))
        self.check_error(BOOK, SHUFFLE, (("open", (1, 1, 0, 0)),), 0)
        self.check_play(BOOK, SHUFFLE, first + (("open", (1, 1, 0, 0)),))

    def test_is_play_of_one_part_otherwise(self):
        rng = random.Random(48)
        for book, shuffle in [(BOOK, SHUFFLE)] + PAIRS[:60:6]:
            play = reckon.some_play(rng, book, shuffle, 0.1, 5)
            shown = {repr(deed): deed for deed in all_deeds(book)}
            for other in support.mutants(play):
                good = type(other) is tuple and all(repr(deed) in shown for deed in other)
                good = good and self.first_barred(book, shuffle, other) is None
                self.assertIs(self.says(plays.is_play, book, shuffle, other), good, other)

    def test_is_play_of_any_value(self):
        for book, shuffle in [(BOOK, SHUFFLE)] + PAIRS[:6]:
            nowhere = [("open", (0, 0, -1, 9)), ("open", (0, 0, -1)), ("open", [0, 0, -1, 0]), ("unlock", (0, 9, 0)),
                       ("leave", len(book[0])), ("leave", False), ("leave", -1), ("shut", (0, 0, -1, 0)), "open",
                       ("open", (False, 0, -1, 0)), ["leave", 0], ("leave",), ("leave", 0, 0)]
            for value in support.STRANGE + (book, shuffle, START) + tuple([(deed,) for deed in nowhere]):
                self.assertIs(self.says(plays.is_play, book, shuffle, value), value == (), value)


class Anew(unittest.TestCase):

    def test_what_is_returned_is_new(self):
        for book, shuffle in PAIRS[:20]:
            keys = plays.keys_in_hand(book, shuffle, START)
            states = plays.states_of(book, shuffle, [])
            keys[(9, 9)] = 1
            states.append(None)
            self.assertEqual(plays.keys_in_hand(book, shuffle, START), reckon.in_hand(book, shuffle, START))
            self.assertEqual(plays.states_of(book, shuffle, []), [START])


if __name__ == "__main__":
    unittest.main()
