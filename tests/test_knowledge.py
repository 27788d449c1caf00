"""[32]: what is known."""

import random
import unittest

from tests import goods, reckon, support
from tests.goods import BIG, KEY, NOTHING, STRAW
from wellstrewn import knowledge

KEEP_BOOK = support.SMALL_BOOKS[2]
TWO_WORLDS = ((("n", (("c", 1, None), ("k", 1, support.VAULT)), ((0, 1, (0,)), (1, 0, ()))),
               ("s", (("y", 2, None), ("z", 0, support.KEEP)), ((0, 1, (1, 2)),))),
              (("hook", 0), ("coin", 1), ("rope", 1)))


def some_pairs(seed, each):
    """Books gone through, each with some KNOWLEDGE."""
    rng = random.Random(seed)
    return [(gone, goods.some_knowledge(rng, gone)) for gone in goods.TINY for _ in range(each)]


def is_right(book, value):
    """Whether any value is a KNOWLEDGE: by what its parts show, so that no truth passes for an integer."""
    places = [repr(place) for place in support.places_in_order(book)]
    spots = [repr(spot) for spot in support.spots_in_order(book)]
    contents = [repr(content) for content in goods.contents_of(book)]
    if type(value) is not tuple or len(value) != 2:
        return False
    for part in value:
        if type(part) is not tuple or not all(type(row) is tuple and len(row) == 2 for row in part):
            return False
    seen, hints = value
    at = [places.index(repr(place)) for place, _ in seen if repr(place) in places]
    if len(at) < len(seen) or at != sorted(set(at)) or not all(repr(content) in contents for _, content in seen):
        return False
    things = [t for t, _ in hints]
    if not all(type(t) is int and 0 <= t < len(book[1]) for t in things) or things != sorted(set(things)):
        return False
    for _, lot in hints:
        if type(lot) is not tuple or lot == () or not all(repr(spot) in spots for spot in lot):
            return False
        if list(lot) != sorted(set(lot)):
            return False
    return True


class IsKnowledge(support.SameAgain, unittest.TestCase):

    def check(self, book, value):
        right = is_right(book, value)
        self.assertIs(self.says(knowledge.is_knowledge, book, value), right, value)
        return right

    def test_ones_that_are(self):
        for gone, known in some_pairs(220, 6):
            self.assertTrue(self.check(gone.book, known))

    def test_one_part_otherwise(self):
        rng = random.Random(221)
        found = [0, 0]
        for gone in [gone for gone in goods.SOME_GOOD if gone.book[1]][::5] + [goods.Gone(KEEP_BOOK)]:
            known = goods.some_knowledge(rng, gone)
            for other in support.mutants((known[0][:2], known[1][:2])):
                found[self.check(gone.book, other)] += 1
        self.assertGreater(min(found), 20)

    def test_by_hand(self):
        home, deep = (0, 0, -1, 0), (0, 1, 1, 1)
        good = (((home, ("thing", 1)), (deep, KEY)), ((0, ((0, 0), (0, 1))), (1, ((0, 1),))))
        seen, hints = good
        self.assertTrue(self.check(KEEP_BOOK, good))
        for other in [(seen[::-1], hints), (seen[:1] * 2, hints), (seen[:1] + ((home, STRAW),) + seen[1:], hints),
                      (((home, STRAW), (home, ("thing", 1))), hints), (seen, hints[::-1]), (seen, hints[:1] * 2),
                      (seen, ((0, ()),)), (seen, ((0, ((0, 1), (0, 0))),)), (seen, ((0, ((0, 0), (0, 0))),)),
                      (seen, ((0, ((0, 2),)),)), (seen, ((0, ((0, True),)),)), (seen, ((False, ((0, 0),)),)),
                      (seen, ((2, ((0, 0),)),)), (seen, ((-1, ((0, 0),)),)), (seen, ((0, [(0, 0)]),)),
                      (seen, ((0, (0, 0)),)), (list(seen), hints), ([*seen], [*hints]), list(good), good + ((),),
                      good[:1], (((home, ("thing", True)),), ()), (((home, ("thing", 2)),), ()),
                      (((home, ["key"]),), ()), (((home, "key"),), ()), (((list(home), KEY),), ()),
                      ((((False, 0, -1, 0), KEY),), ()), ((((0, 0, 0, 0), KEY),), ()), ((((0, 1, 1, 2), KEY),), ()),
                      (((home, STRAW, STRAW),), ()), ((home,), ()), (((0, 1), KEY), ()), ((((0, 1), KEY),), ()),
                      (((home, ("straw", 0)),), ()), ({}, ()), ((), {}), ("", ()), ((), None)]:
            self.assertFalse(self.check(KEEP_BOOK, other), other)

    def test_keys_may_be_told_of_any_place_and_bounds_are_not_asked(self):
        for content in (KEY, BIG, STRAW, ("thing", 0)):
            for place in support.places_in_order(KEEP_BOOK):
                self.assertTrue(self.check(KEEP_BOOK, (((place, content),), ())))
        everywhere = tuple(support.spots_in_order(TWO_WORLDS))
        all_keys = tuple([(place, KEY) for place in support.places_in_order(TWO_WORLDS)])
        self.assertTrue(self.check(TWO_WORLDS, (all_keys, tuple([(t, everywhere) for t in range(3)]))))
        same = tuple([(place, ("thing", 0)) for place in support.places_in_order(TWO_WORLDS)])
        self.assertTrue(self.check(TWO_WORLDS, (same, ())))

    def test_any_value(self):
        for book in support.SMALL_BOOKS + (TWO_WORLDS,):
            for value in support.STRANGE + (book, NOTHING, (NOTHING, NOTHING), ((), ((),)), (((),), ()), (((), ()),)):
                self.check(book, value)

    def test_of_other_books(self):
        for gone, known in some_pairs(222, 2):
            for book in (KEEP_BOOK, TWO_WORLDS, goods.NONE_GOOD):
                self.check(book, known)


class Fits(support.SameAgain, unittest.TestCase):

    def test_all_shuffles(self):
        found = [0, 0]
        for gone, known in some_pairs(223, 5):
            for shuffle in gone.all[::1 + len(gone.all) // 30]:
                right = goods.fits_by_hand(gone.book, shuffle, known)
                self.assertIs(self.says(knowledge.fits, gone.book, shuffle, known), right)
                found[right] += 1
        self.assertGreater(min(found), 500)

    def test_hints_of_regions_with_dungeons(self):
        shuffle = (STRAW, ("thing", 0), KEY, STRAW, ("thing", 1))
        for t, spots, right in [(0, ((0, 1),), True), (0, ((0, 0),), False), (1, ((0, 1),), True),
                                (1, ((0, 0), (0, 1)), True), (1, ((0, 0),), False)]:
            self.assertIs(knowledge.fits(KEEP_BOOK, shuffle, ((), ((t, spots),))), right)


class Seen(support.SameAgain, unittest.TestCase):

    def test_seen_in(self):
        rng = random.Random(224)
        left = 0
        for gone in goods.TINY:
            for shuffle in rng.sample(gone.all, min(4, len(gone.all))):
                state = reckon.some_state(rng, gone.book)
                seen = [(place, content) for place, content in sorted(reckon.lying(gone.book, shuffle).items())
                        if place in state[0] or place[0] in state[2]]
                found = self.answer(knowledge.seen_in, gone.book, shuffle, state)
                self.assertEqual(repr(found), repr((tuple(seen), ())))
                self.assertTrue(is_right(gone.book, found) and goods.fits_by_hand(gone.book, shuffle, found))
                left += len(seen) > len(state[0])
        self.assertGreater(left, 30)

    def test_players_gone_show_all_of_their_world(self):
        places = support.places_in_order(TWO_WORLDS)
        shuffle = support.some_shuffle(random.Random(225), TWO_WORLDS)
        for gone in ((), (0,), (1,), (0, 1)):
            seen, hints = knowledge.seen_in(TWO_WORLDS, shuffle, ((places[0], places[-1]), (), gone))
            shown = [place for place in places if place[0] in gone or place in (places[0], places[-1])]
            self.assertEqual(([place for place, _ in seen], hints), (shown, ()))

    def test_with_seen_and_with_hint(self):
        rng = random.Random(226)
        for gone, known in some_pairs(227, 3):
            seen, hints = known
            left = [place for place in support.places_in_order(gone.book) if place not in dict(seen)]
            for place in left:
                content = rng.choice(goods.contents_of(gone.book))
                found = self.answer(knowledge.with_seen, known, place, content)
                self.assertEqual(found, (tuple(sorted(seen + ((place, content),))), hints))
                self.assertTrue(is_right(gone.book, found))
            for t in [t for t in range(len(gone.book[1])) if t not in dict(hints)]:
                spots = support.some_lot(rng, support.spots_in_order(gone.book)) or ((0, 0),)
                found = self.answer(knowledge.with_hint, known, t, spots)
                self.assertEqual(found, (seen, tuple(sorted(hints + ((t, spots),)))))
                self.assertTrue(is_right(gone.book, found))


class Joined(support.SameAgain, unittest.TestCase):

    def right(self, one, other):
        seen = dict(one[0])
        for place, content in other[0]:
            if seen.setdefault(place, content) != content:
                return None
        hints = dict(one[1])
        for t, spots in other[1]:
            hints[t] = tuple(sorted(set(hints.get(t, spots)) & set(spots)))
        return None if () in hints.values() else (tuple(sorted(seen.items())), tuple(sorted(hints.items())))

    def test_just_those_that_fit_both(self):
        rng = random.Random(228)
        found = [0, 0]
        for gone in goods.TINY * 3:
            one, other = goods.some_knowledge(rng, gone), goods.some_knowledge(rng, gone)
            both = self.answer(knowledge.joined, one, other)
            self.assertEqual(repr(both), repr(self.right(one, other)))
            self.assertEqual(repr(knowledge.joined(other, one)), repr(both))
            found[both is None] += 1
            for shuffle in gone.all[::1 + len(gone.all) // 40]:
                right = all(goods.fits_by_hand(gone.book, shuffle, known) for known in (one, other))
                self.assertIs(both is not None and knowledge.fits(gone.book, shuffle, both), right)
            self.assertTrue(both is None or is_right(gone.book, both))
        self.assertGreater(min(found), 30)

    def test_by_hand(self):
        home, deep = (0, 0, -1, 0), (0, 1, 1, 1)
        seen = ((home, STRAW),)
        hint = ((0, ((0, 0), (0, 1))),)
        for one, other, right in [
                (NOTHING, NOTHING, NOTHING), ((seen, ()), NOTHING, (seen, ())), ((seen, ()), (seen, ()), (seen, ())),
                ((seen, ()), (((home, KEY),), ()), None), ((((deep, KEY),), ()), (seen, ()), (seen + ((deep, KEY),), ())),
                (((), hint), NOTHING, ((), hint)), (((), hint), ((), ((0, ((0, 1),)),)), ((), ((0, ((0, 1),)),))),
                (((), ((0, ((0, 0),)),)), ((), ((0, ((0, 1),)),)), None),
                # A thing seen in two PLACES, or outside its hint: nothing fits, but there is a KNOWLEDGE.
                ((((home, ("thing", 0)),), ()), (((deep, ("thing", 0)),), ()),
                 (((home, ("thing", 0)), (deep, ("thing", 0))), ())),
                ((((home, ("thing", 0)),), ()), ((), ((0, ((0, 1),)),)), (((home, ("thing", 0)),), ((0, ((0, 1),)),))),
                (((), ((1, ((0, 0),)),)), ((), hint), ((), hint + ((1, ((0, 0),)),)))]:
            self.assertEqual(self.answer(knowledge.joined, one, other), right)


class Frames(support.SameAgain, unittest.TestCase):

    def check(self, gone, known):
        """frame_from and sights_from by the definition; None exactly where no SHUFFLE has what was seen."""
        book, seen = gone.book, dict(known[0])
        can = any(goods.fits_by_hand(book, shuffle, (known[0], ())) for shuffle in gone.all)
        frame = self.answer(knowledge.frame_from, book, known)
        sights = self.answer(knowledge.sights_from, book, known)
        self.assertEqual((frame is None, sights is None), (not can, not can), known)
        if can:
            self.assertEqual(repr(frame), repr(self.frame(gone, known)))
            rows = [[seen.get(place) for place in support.places_in_order(book) if place[:2] == spot and place[2] >= 0]
                    for spot in sorted(reckon.dungeons(book))]
            words = {None: "any", KEY: "key", BIG: "big"}
            self.assertEqual(sights, tuple([tuple([words.get(content, "other") for content in row]) for row in rows]))
        return can

    def frame(self, gone, known):
        """Of any SHUFFLE that has what was seen: the PLACES that are not seen and have no key."""
        book, seen = gone.book, dict(known[0])
        lying = reckon.lying(book, [some for some in gone.all if goods.fits_by_hand(book, some, (known[0], ()))][0])
        free = tuple([len([place for place in lying if place[:2] == spot and place not in seen
                           and lying[place] not in (KEY, BIG)]) for spot in support.spots_in_order(book)])
        homes = {content: place[:2] for place, content in known[0]}
        told = tuple([homes.get(("thing", t)) for t in range(len(book[1]))])
        return (free, told, tuple([dict(known[1]).get(t) for t in range(len(book[1]))]))

    def test_of_some_knowledge(self):
        found = [self.check(gone, known) for gone, known in some_pairs(229, 8)]
        self.assertGreater(min(found.count(True), found.count(False)), 60)

    def test_of_any_contents(self):
        rng = random.Random(230)
        found = []
        for gone in goods.TINY * 6:
            places = support.some_lot(rng, support.places_in_order(gone.book))[:rng.randint(1, 4)]
            seen = tuple([(place, rng.choice(goods.contents_of(gone.book))) for place in places])
            found.append(self.check(gone, (seen, ())))
        self.assertGreater(min(found.count(True), found.count(False)), 60)

    def test_where_there_is_none(self):
        gone = goods.Gone(((("w", (("a", 1, None), ("b", 1, (((None, None, 2), (0, "bar", 1)), 1))), ((0, 1, ()),)),),
                           (("s", 0), ("t", 0))))
        home, out, one, two, deep = support.places_in_order(gone.book)
        s, t = ("thing", 0), ("thing", 1)
        for seen, right in [(((home, KEY),), False), (((out, BIG),), False), (((one, KEY), (two, KEY)), False),
                            (((one, BIG), (two, BIG)), False), (((home, s), (out, s)), False),
                            (((one, STRAW), (two, STRAW)), False), (((one, KEY), (two, STRAW), (deep, s)), False),
                            (((home, STRAW), (out, STRAW)), False), (((home, STRAW), (deep, STRAW)), False),
                            (((home, STRAW),), True), (((one, s), (deep, BIG)), True), (((deep, BIG),), True),
                            (((one, BIG), (two, KEY), (deep, STRAW)), True), (((home, t), (out, s)), True),
                            (((home, STRAW), (out, s)), True), (((one, STRAW),), True)]:
            self.assertIs(self.check(gone, (seen, ())), right, seen)

    def test_hints_do_not_make_it_none(self):
        gone = goods.Gone(KEEP_BOOK)
        for known in [((((0, 0, -1, 0), ("thing", 0)),), ((0, ((0, 1),)),)), ((), ((0, ((0, 1),)),))]:
            self.assertTrue(self.check(gone, known))

    def test_books_without_a_shuffle(self):
        for book in goods.NO_SHUFFLE:
            self.assertFalse(self.check(goods.Gone(book), NOTHING))

    def test_fields(self):
        for gone, known in some_pairs(231, 6):
            book, seen = gone.book, dict(known[0])
            for shuffle in [some for some in gone.all if goods.fits_by_hand(book, some, known)][::7]:
                lying = reckon.lying(book, shuffle)
                left = tuple([place for place in support.places_in_order(book)
                              if place not in seen and lying[place] not in (KEY, BIG)])
                told = {content: place for place, content in known[0]}
                right = (left, tuple([told.get(("thing", t)) for t in range(len(book[1]))]),
                         tuple([dict(known[1]).get(t) for t in range(len(book[1]))]))
                self.assertEqual(repr(self.answer(knowledge.field_from, book, shuffle, known)), repr(right))


if __name__ == "__main__":
    unittest.main()
