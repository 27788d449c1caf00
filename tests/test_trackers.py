"""[33], [34], [7]: what is told of chests that nobody has opened."""

import random
import unittest
from fractions import Fraction

from tests import goods, reckon, support
from tests.goods import BIG, KEY, NOTHING, STRAW
from tests.test_knowledge import some_pairs
from wellstrewn import goodness, knowledge, numbering, trackers
from wellstrewn.errors import NoFit, NoNumber
from wellstrewn.forms import is_fraction

CASES = [(gone, known, gone.fitting(known)) for gone, known in some_pairs(240, 6)]
CASES += [(gone, NOTHING, gone.good) for gone in goods.TINY]
FITTING = [case for case in CASES if case[2]]


def fraction(n, d):
    found = Fraction(n, d)
    return (found.numerator, found.denominator)


def shares(values):
    """The dict, ascending, from values to the FRACTIONS of a list that they are."""
    return {value: fraction(values.count(value), len(values)) for value in sorted(set(values))}


def at(gone, fitting, place):
    """The CONTENTS of a PLACE in all that FIT."""
    k = support.places_in_order(gone.book).index(place)
    return [shuffle[k] for shuffle in fitting]


def homes(gone, fitting, t):
    """The PLACES of a thing in all that FIT."""
    places = support.places_in_order(gone.book)
    return [places[shuffle.index(("thing", t))] for shuffle in fitting]


class Counts(support.SameAgain, unittest.TestCase):

    def test_cases_are_of_all_sorts(self):
        many = [len(fitting) for _, _, fitting in CASES]
        self.assertGreater(min(many.count(0), many.count(1), len([n for n in many if n > 5])), 40)
        self.assertGreater(len([1 for _, known, fitting in FITTING if known[1]]), 40)
        self.assertGreater(len([1 for _, known, fitting in CASES if known[1] and not fitting]), 20)

    def test_how_many(self):
        for gone, known, fitting in CASES:
            self.assertEqual(repr(self.answer(trackers.how_many, gone.book, known)), repr(len(fitting)), known)

    def test_shares(self):
        for gone, known, fitting in FITTING[::2]:
            for place in support.places_in_order(gone.book):
                values = at(gone, fitting, place)
                for content in goods.contents_of(gone.book):
                    found = trackers.share_of(gone.book, known, place, content)
                    self.assertEqual(repr(found), repr(fraction(values.count(content), len(values))))
                    self.assertTrue(is_fraction(found))

    def test_shares_at(self):
        for gone, known, fitting in FITTING:
            for place in support.places_in_order(gone.book):
                found = self.answer(trackers.shares_at, gone.book, known, place)
                self.assertEqual(repr(found), repr(shares(at(gone, fitting, place))))

    def test_shares_for_and_where_a_thing_can_lie(self):
        several = 0
        for gone, known, fitting in FITTING:
            for t in range(len(gone.book[1])):
                right = shares(homes(gone, fitting, t))
                self.assertEqual(repr(self.answer(trackers.shares_for, gone.book, known, t)), repr(right))
                self.assertEqual(self.answer(trackers.can_lie, gone.book, known, t), tuple(right))
                most = max(Fraction(*share) for share in right.values())
                best = tuple([place for place, share in right.items() if Fraction(*share) == most])
                self.assertEqual(self.answer(trackers.best_places, gone.book, known, t), best)
                several += 1 < len(best) < len(right)
        self.assertGreater(several, 20)

    def test_surely(self):
        told = 0
        for gone, known, fitting in FITTING:
            places = support.places_in_order(gone.book)
            right = [(place, fitting[0][k]) for k, place in enumerate(places) if place not in dict(known[0])
                     and {shuffle[k] for shuffle in fitting} == {fitting[0][k]}]
            self.assertEqual(self.answer(trackers.surely, gone.book, known), tuple(right))
            told += 0 < len(right) < len(places) - len(known[0])
        self.assertGreater(told, 60)

    def test_nothing_fits(self):
        cases = [(gone.book, known) for gone, known, fitting in CASES if not fitting and gone.book[1]]
        for book, known in cases:
            self.assertEqual(repr(trackers.how_many(book, known)), "0")
            places = support.places_in_order(book)
            for function, *more in [(trackers.shares_for, 0), (trackers.surely,), (trackers.can_lie, 0),
                                    (trackers.best_places, 0), (trackers.first_fitting,),
                                    *[(trackers.shares_at, place) for place in places[:2]],
                                    *[(trackers.share_of, place, STRAW) for place in places[:2]]]:
                with self.assertRaises(NoFit):
                    self.answer(function, book, known, *more)
            with self.assertRaises(NoNumber) as caught:
                self.answer(trackers.fitting_at, book, known, 0)
            self.assertEqual(repr(caught.exception.many), "0")
            for place in places[:2]:
                self.assertEqual(self.answer(trackers.parted, book, known, place, STRAW), (None, None))
        self.assertGreater(len(cases), 60)

    def test_places_that_were_seen(self):
        book, seen = support.SMALL_BOOKS[2], (((0, 0, -1, 0), ("thing", 0)),)
        self.assertEqual(trackers.share_of(book, (seen, ()), (0, 0, -1, 0), ("thing", 0)), (1, 1))
        for content in (STRAW, KEY, BIG, ("thing", 1)):
            self.assertEqual(trackers.share_of(book, (seen, ()), (0, 0, -1, 0), content), (0, 1))
        self.assertEqual(trackers.shares_for(book, (seen, ()), 0), {(0, 0, -1, 0): (1, 1)})
        self.assertEqual(trackers.shares_at(book, (seen, ()), (0, 0, -1, 0)), {("thing", 0): (1, 1)})
        self.assertNotIn((0, 0, -1, 0), dict(trackers.surely(book, (seen, ()))))

    def test_what_is_returned_is_new(self):
        book = support.SMALL_BOOKS[2]
        for function, argument in [(trackers.shares_at, (0, 0, -1, 0)), (trackers.shares_for, 0)]:
            found = function(book, NOTHING, argument)
            before = dict(found)
            found.clear()
            self.assertEqual(function(book, NOTHING, argument), before)


class ByNumber(support.SameAgain, unittest.TestCase):

    def test_fitting_at_each_index(self):
        for gone, known, fitting in CASES:
            for index in range(0, len(fitting), 1 + len(fitting) // 12):
                self.assertEqual(self.answer(trackers.fitting_at, gone.book, known, index), fitting[index])
            for index in (len(fitting), len(fitting) + 1, 10 ** 39):
                with self.assertRaises(NoNumber) as caught:
                    self.answer(trackers.fitting_at, gone.book, known, index)
                self.assertEqual(repr(caught.exception.many), repr(len(fitting)))

    def test_all_of_some(self):
        for gone, known, fitting in [case for case in FITTING if len(case[2]) < 100][::9]:
            found = [trackers.fitting_at(gone.book, known, index) for index in range(len(fitting))]
            self.assertEqual(found, fitting)

    def test_first_fitting(self):
        for gone, known, fitting in FITTING:
            self.assertEqual(self.answer(trackers.first_fitting, gone.book, known), fitting[0])

    def test_parted(self):
        found = set()
        for gone, known, fitting in FITTING[::2] + [case for case in CASES if not case[2]][::4]:
            for k, place in list(enumerate(support.places_in_order(gone.book)))[::2]:
                for content in goods.contents_of(gone.book):
                    one = [shuffle for shuffle in fitting if shuffle[k] == content]
                    other = [shuffle for shuffle in fitting if shuffle[k] != content]
                    right = (one[0] if one else None, other[0] if other else None)
                    pair = self.answer(trackers.parted, gone.book, known, place, content)
                    self.assertEqual(repr(pair), repr(right))
                    is_one = trackers.is_parting(gone.book, known, place, content, pair)
                    self.assertIs(is_one, None not in pair)
                    found.add((bool(one), bool(other), bool(fitting) and fitting[0][k] == content, content[0]))
        self.assertGreaterEqual(len(found), 12)


class IsParting(support.SameAgain, unittest.TestCase):

    def check(self, gone, known, place, content, value):
        right = False
        if type(value) is tuple and len(value) == 2:
            fitting = [repr(shuffle) for shuffle in gone.fitting(known)]
            k = support.places_in_order(gone.book).index(place)
            right = all(repr(shuffle) in fitting for shuffle in value)
            right = right and value[0][k] == content and value[1][k] != content
        self.assertIs(self.says(trackers.is_parting, gone.book, known, place, content, value), right, value)
        return right

    def test_all_pairs(self):
        rng = random.Random(241)
        found = [0, 0]
        for gone, known, fitting in FITTING[::3]:
            for _ in range(20):
                place = rng.choice(support.places_in_order(gone.book) or [None])
                if place is None:
                    break
                values = at(gone, fitting, place)
                content = rng.choice(values + goods.contents_of(gone.book))
                pool = rng.choice((gone.all, gone.good, fitting))
                found[self.check(gone, known, place, content, (rng.choice(pool), rng.choice(fitting)))] += 1
                other = [shuffle for shuffle, value in zip(fitting, values) if value != content]
                one = [shuffle for shuffle, value in zip(fitting, values) if value == content]
                if one and other:
                    found[self.check(gone, known, place, content, (rng.choice(one), rng.choice(other)))] += 1
        self.assertGreater(min(found), 150)

    def test_one_part_otherwise_and_any_value(self):
        done = 0
        for gone, known, fitting in [case for case in FITTING if len(case[2]) > 4][::12]:
            place = support.places_in_order(gone.book)[0]
            pair = trackers.parted(gone.book, known, place, STRAW)
            if None not in pair:
                done += 1
                for other in support.mutants(pair) + list(support.STRANGE) + [gone.book, known, (None, None), pair[:1],
                                                                             pair * 2, pair[::-1], list(pair)]:
                    self.check(gone, known, place, STRAW, other)
        self.assertGreater(done, 2)


class Large(unittest.TestCase):
    """Books as large as the bounds allow."""

    def setUp(self):
        self.rng = random.Random(242)
        self.book = goods.large_book()
        self.places = support.places_in_order(self.book)
        self.spots = support.spots_in_order(self.book)

    def some_known(self, many, hints):
        """What a GOOD SHUFFLE shows in some PLACES, with hints that are true of it."""
        n = self.rng.randrange(numbering.good_shuffles(self.book))
        lying = reckon.lying(self.book, numbering.nth_shuffle(self.book, n))
        known = (tuple([(place, lying[place]) for place in sorted(self.rng.sample(self.places, many))]), ())
        homes_by_thing = {content: place[:2] for place, content in lying.items()}
        for t in self.rng.sample(range(12), hints):
            spots = {homes_by_thing[("thing", t)]} | set(self.rng.sample(self.spots, 3))
            known = knowledge.with_hint(known, t, tuple(sorted(spots)))
        return known

    def test_what_a_place_may_have_adds_up(self):
        for known in (NOTHING, self.some_known(40, 3), self.some_known(200, 3)):
            many = trackers.how_many(self.book, known)
            self.assertGreater(many, 0)
            left = [place for place in self.places if place not in dict(known[0])]
            for place in [self.rng.choice([place for place in left if place[2] < 0]),
                          self.rng.choice([place for place in left if place[2] >= 0])]:
                counts = {content: trackers.how_many(self.book, knowledge.with_seen(known, place, content))
                          for content in goods.contents_of(self.book)}
                self.assertEqual(sum(counts.values()), many)
                right = {content: fraction(number, many) for content, number in counts.items() if number > 0}
                self.assertEqual(trackers.shares_at(self.book, known, place), right)

    def test_where_a_thing_may_lie_adds_up(self):
        for known in (NOTHING, self.some_known(60, 3)):
            for t in range(0, 12, 5):
                found = trackers.shares_for(self.book, known, t)
                self.assertEqual(sum([Fraction(*share) for share in found.values()]), 1)
                self.assertEqual(tuple(found), trackers.can_lie(self.book, known, t))
                self.assertTrue(set(trackers.best_places(self.book, known, t)) <= set(found))

    def test_there_and_back(self):
        for known in (NOTHING, self.some_known(30, 3), self.some_known(250, 1)):
            many = trackers.how_many(self.book, known)
            last = -1
            for index in sorted({0, many // 3, many - 1}):
                shuffle = trackers.fitting_at(self.book, known, index)
                self.assertTrue(goodness.is_good(self.book, shuffle))
                self.assertTrue(goods.fits_by_hand(self.book, shuffle, known))
                number = numbering.number_of(self.book, shuffle)
                self.assertGreater(number, last)
                last = number
            self.assertEqual(trackers.first_fitting(self.book, known), trackers.fitting_at(self.book, known, 0))
            with self.assertRaises(NoNumber):
                trackers.fitting_at(self.book, known, many)

    def test_parted_and_surely(self):
        known = self.some_known(330, 3)
        fixed = trackers.surely(self.book, known)
        shuffle = trackers.first_fitting(self.book, known)
        lying = reckon.lying(self.book, shuffle)
        self.assertTrue(fixed)
        self.assertEqual([lying[place] for place, _ in fixed], [content for _, content in fixed])
        left = [place for place in self.places if place not in dict(known[0]) and place not in dict(fixed)]
        for place in [fixed[0][0], *left[:2]]:
            pair = trackers.parted(self.book, known, place, lying[place])
            self.assertIs(pair[1] is None, place in dict(fixed))
            self.assertEqual(pair[0], shuffle)
            is_one = trackers.is_parting(self.book, known, place, lying[place], pair)
            self.assertIs(is_one, place not in dict(fixed))


if __name__ == "__main__":
    unittest.main()
