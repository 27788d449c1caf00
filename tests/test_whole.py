"""[5] to [9]: what the document promises over the whole program."""

import random
import unittest

from tests import goods, reckon, support
from tests.test_races import all_deeds, judged_by_hand
from wellstrewn import deadends, errors, goodness, knowledge, numbering, papers, plays, races, trackers
from wellstrewn.house import House
from wellstrewn.shower import show_book, show_deed

START = ((), (), ())
SMALL = [gone for gone in goods.TINY if len(gone.all) > 1]


def locked(book):
    return [hall for hall in support.halls_in_order(book)
            if reckon.dungeons(book)[hall[:2]][0][hall[2]][1] == "lock"]


class NeverStuck(unittest.TestCase):

    def test_good_is_just_what_has_no_dead_end(self):
        found = [0, 0]
        for gone in SMALL:
            for shuffle in gone.all[::1 + len(gone.all) // 5]:
                if len(shuffle) + len(locked(gone.book)) > 8:
                    continue
                good = reckon.stuck_behind(gone.book, shuffle, True) is None
                found[good] += 1
                self.assertIs(goodness.is_good(gone.book, shuffle), good)
                self.assertIs(shuffle in gone.good, good)
                play = papers.dead_play(gone.book, shuffle)
                self.assertIs(play is None, good)
                if good:
                    paper = papers.good_paper(gone.book, shuffle)
                    self.assertTrue(papers.is_good_paper(gone.book, shuffle, paper))
                else:
                    self.assertTrue(reckon.is_stuck(gone.book, shuffle, plays.run(gone.book, shuffle, play)))
        self.assertGreater(min(found), 30)

    def test_the_numbered_ones_are_all_that_have_no_dead_end(self):
        done = 0
        for gone in SMALL:
            if len(gone.all) > 40 or len(gone.all[0]) + len(locked(gone.book)) > 7:
                continue
            done += 1
            right = [shuffle for shuffle in gone.all if reckon.stuck_behind(gone.book, shuffle, True) is None]
            found = [numbering.nth_shuffle(gone.book, n) for n in range(numbering.good_shuffles(gone.book))]
            self.assertEqual(sorted(found), sorted(right))
        self.assertGreater(done, 5)

    def go_on(self, rng, book, shuffle, play):
        """Behind a PLAY, by whatever DEEDS, all comes to be WHOLE."""
        state = plays.run(book, shuffle, play)
        self.assertFalse(plays.is_dead_end(book, shuffle, state))
        many = len(support.places_in_order(book)) + len(locked(book)) - len(state[0]) - len(state[1])
        choices = [rng.randrange(100) for _ in range(many + 1)]
        for more in (deadends.finish(book, shuffle, state), deadends.hasty(book, shuffle, state),
                     deadends.foolish(book, shuffle, state, choices)):
            self.assertLessEqual(len(more), many)
            end = plays.run(book, shuffle, play + more)
            self.assertEqual(plays.deeds_of(book, shuffle, end), ())
            self.assertTrue(plays.is_whole(book, shuffle, end))
            self.assertEqual(plays.held_in(book, shuffle, end), tuple(range(len(book[1]))))

    def test_whatever_play_is_gone(self):
        rng = random.Random(300)
        for gone in goods.SOME_GOOD:
            for _ in range(4):
                shuffle = numbering.nth_shuffle(gone.book, rng.randrange(len(gone.good)))
                for leaving in (0, 0.2):
                    play = reckon.some_play(rng, gone.book, shuffle, leaving, rng.randint(0, 9))
                    self.go_on(rng, gone.book, shuffle, play)

    def test_in_a_large_book(self):
        rng = random.Random(301)
        book = goods.large_book()
        many = numbering.good_shuffles(book)
        for leaves in ([], [1], [2, 0], [0, 1, 2]):
            shuffle = numbering.nth_shuffle(book, rng.randrange(many))
            play = deadends.foolish(book, shuffle, START, [rng.randrange(99) for _ in range(30)])
            play += tuple([("leave", w) for w in leaves])
            state = plays.run(book, shuffle, play)
            more = deadends.foolish(book, shuffle, state, [rng.randrange(999) for _ in range(440)])
            end = plays.run(book, shuffle, play + more)
            self.assertEqual(plays.deeds_of(book, shuffle, end), ())
            self.assertTrue(plays.is_whole(book, shuffle, end))
            self.assertEqual(plays.held_in(book, shuffle, end), tuple(range(12)))
            self.assertEqual(papers.dead_play(book, shuffle), None)


class KeptByAHouse(unittest.TestCase):

    def house_of(self, book):
        house = House("")
        house.put_book("x", show_book(book))
        self.assertEqual(house.books(), {"x": book})
        return house

    def test_one_number_for_each(self):
        for gone in [gone for gone in goods.TINY if len(gone.good) < 40]:
            house = self.house_of(gone.book)
            for n in range(len(gone.good)):
                house.put_race("r%d" % n, "x", n)
            found = [house.shuffle("r%d" % n) for n in range(len(gone.good))]
            self.assertEqual(found, gone.good)
            with self.assertRaises(errors.NoNumber) as caught:
                house.put_race("more", "x", len(gone.good))
            self.assertEqual(caught.exception.many, len(gone.good))

    def test_trackers_along_plays(self):
        rng = random.Random(302)
        steps = 0
        for gone in goods.SOME_GOOD[::2]:
            book, n = gone.book, rng.randrange(len(gone.good))
            house = self.house_of(book)
            house.put_race("r", "x", n)
            for tick, deed in enumerate(reckon.some_play(rng, book, gone.good[n], 0.1)):
                ahead = gone.fitting(house.known("r"))
                self.assertEqual(house.many_left("r"), len(ahead))
                for place, content in trackers.surely(book, house.known("r")):
                    k = support.places_in_order(book).index(place)
                    self.assertEqual({shuffle[k] for shuffle in ahead}, {content})
                    self.assertEqual(house.chance("r", place, content), (1, 1))
                self.assertEqual(trackers.first_fitting(book, house.known("r")), ahead[0])
                house.do("r", tick, show_deed(book, deed))
                self.assertIn(gone.good[n], gone.fitting(house.known("r")))
                steps += 1
            self.assertEqual(House(house.text()).races(), house.races())
        self.assertGreater(steps, 100)

    def test_each_chest_opened_leaves_its_share(self):
        rng = random.Random(303)
        book = goods.large_book(range(3, 9))
        house = self.house_of(book)
        many = numbering.good_shuffles(book)
        house.put_race("r", "x", rng.randrange(many))
        self.assertEqual(house.many_left("r"), many)
        lying = reckon.lying(book, house.shuffle("r"))
        for tick in range(24):
            opens = [deed for deed in house.left("r") if deed[0] == "open"]
            locks = [deed for deed in house.left("r") if deed[0] == "unlock"]
            word, what = rng.choice(locks[:1] * 3 + opens)
            n, d = house.chance("r", what, lying[what]) if word == "open" else (1, 1)
            house.do("r", tick, show_deed(book, (word, what)))
            self.assertEqual(house.many_left("r") * d, many * n)
            many = house.many_left("r")
        self.assertTrue(0 < many < numbering.good_shuffles(book))
        self.assertTrue(knowledge.fits(book, house.shuffle("r"), house.known("r")))

    def test_a_race_takes_just_what_is_a_play(self):
        rng = random.Random(304)
        found = [0, 0]
        for gone in goods.SOME_GOOD[::2]:
            house = self.house_of(gone.book)
            house.put_race("r", "x", 0)
            deeds = all_deeds(gone.book)
            for tick in range(12):
                deed = rng.choice(deeds + list(house.left("r")) * 2)
                log = house.races()["r"][2]
                right = judged_by_hand(gone.book, gone.good[0], [other for _, other in log] + [deed])
                self.assertEqual(races.judged(gone.book, gone.good[0], log + ((tick, deed),)), right)
                found[right is None] += 1
                if right is None:
                    house.do("r", tick, show_deed(gone.book, deed))
                    self.assertEqual(house.races()["r"][2], log + ((tick, deed),))
                else:
                    with self.assertRaises(errors.NoDeed) as caught:
                        house.do("r", tick, show_deed(gone.book, deed))
                    self.assertEqual(caught.exception.index, right)
                    self.assertEqual(house.races()["r"][2], log)
        self.assertGreater(min(found), 60)

    def test_a_beginning_of_what_was_done(self):
        rng = random.Random(305)
        for gone in goods.SOME_GOOD[::9]:
            house = self.house_of(gone.book)
            n = rng.randrange(len(gone.good))
            house.put_race("r", "x", n)
            texts = [House("").text(), self.house_of(gone.book).text(), house.text()]
            for tick, deed in enumerate(reckon.some_play(rng, gone.book, gone.good[n], 0.1, 8)):
                house.do("r", tick, show_deed(gone.book, deed))
                texts.append(house.text())
            for cut in range(0, len(house.text()) + 1):
                kept = [text for text in texts if len(text) <= cut][-1]
                self.assertEqual(House(house.text()[:cut]).text(), kept)


if __name__ == "__main__":
    unittest.main()
