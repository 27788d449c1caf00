"""[14]: books, shuffles and deeds shown."""

import unittest

from tests import support
from wellstrewn.shower import show_book, show_deed, show_shuffle

CAVE = (((None, None, 2), (0, "lock", 1), (1, "bar", 1), (0, "open", 3)), 12)
NORTH = ("north", (("camp", 1, None), ("cave", 0, CAVE), ("den", 3, support.NOOK)),
         ((0, 1, (0, 2)), (2, 0, ()), (1, 1, (0, 2, 3))))
SOUTH = ("south", (("camp", 10, None), ("yard", 0, None)), ((0, 1, (1,)), (0, 1, (1,))))
EAST = ("east", (("b", 0, None),), ())
BOOK = ((NORTH, SOUTH, EAST), (("hook", 0), ("coin", 1), ("rope", 0), ("bell", 0)))
TEXT = """world north
region camp 1
region cave 0
dungeon 12 2
room lock 0 1
room bar 1 1
room open 0 3
region den 3
dungeon 0 0
world south
region camp 10
region yard 0
world east
region b 0
thing hook north
thing coin south
thing rope north
thing bell north
arrow north camp cave hook rope
arrow north den camp
arrow north cave cave hook rope bell
arrow south camp yard coin
arrow south camp yard coin"""


def shown_place(book, place):
    w, r, v, i = place
    inside = "" if v == -1 else "%d " % v
    return "%s %s %s%d" % (book[0][w][0], book[0][w][1][r][0], inside, i)


class Showing(support.SameAgain, unittest.TestCase):

    def test_a_book_of_several_worlds_row_by_row(self):
        self.assertEqual(self.answer(show_book, BOOK).split("\n"), TEXT.split("\n"))

    def test_the_least_book(self):
        self.assertEqual(show_book(((("w", (("r", 0, None),), ()),), ())), "world w\nregion r 0")

    def test_what_is_shown_has_single_blanks_and_no_empty_lines(self):
        for book, shuffle in support.books_with_shuffles(40, 6):
            for line in show_book(book).split("\n") + (show_shuffle(book, shuffle) or "x").split("\n"):
                self.assertEqual(line, " ".join(line.split()))
                self.assertNotEqual(line, "")

    def test_a_shuffle_row_by_row(self):
        book = ((("w", (("home", 1, support.VAULT), ("keep", 0, support.KEEP)), ()), EAST), (("hook", 0), ("coin", 1)))
        straw, key = ("straw",), ("key",)
        shuffle = (("thing", 1), key, straw, ("thing", 0), ("big",), key, straw, key, straw)
        self.assertEqual(self.answer(show_shuffle, book, shuffle).split("\n"), [
            "thing coin w home 0", "key w home 0 0", "thing hook w home 1 0", "big w home 2 0", "key w home 3 0",
            "key w keep 1 0"])

    def test_shuffles_line_by_line(self):
        for book, shuffle in support.books_with_shuffles(60, 7):
            lines = []
            for place, content in zip(support.places_in_order(book), shuffle):
                if content != ("straw",):
                    word = "thing " + book[1][content[1]][0] if content[0] == "thing" else content[0]
                    lines.append(word + " " + shown_place(book, place))
            self.assertEqual(self.answer(show_shuffle, book, shuffle), "\n".join(lines))

    def test_straw_alone(self):
        book = ((("w", (("r", 3, support.NOOK),), ()),), ())
        self.assertEqual(self.answer(show_shuffle, book, (("straw",),) * 3), "")
        self.assertEqual(show_shuffle(((("w", (("r", 0, None),), ()),), ()), ()), "")

    def test_deeds(self):
        for deed, line in [
                (("open", (0, 0, -1, 0)), "open north camp 0"), (("open", (0, 1, 0, 1)), "open north cave 0 1"),
                (("open", (0, 1, 3, 2)), "open north cave 3 2"), (("open", (1, 0, -1, 9)), "open south camp 9"),
                (("unlock", (0, 1, 0)), "unlock north cave 0"), (("unlock", (0, 1, 2)), "unlock north cave 2"),
                (("unlock", (0, 2, 0)), "unlock north den 0"), (("leave", 0), "leave north"),
                (("leave", 2), "leave east")]:
            self.assertEqual(self.answer(show_deed, BOOK, deed), line)


if __name__ == "__main__":
    unittest.main()
