"""[41]: a desk."""

import random
import re
import unittest

from tests import goods, reckon, support
from tests.test_house import DUO, TINY, TINY_BOOK, full_house, shown
from wellstrewn import errors, numbering
from wellstrewn.desk import Desk
from wellstrewn.house import House
from wellstrewn.journal import journal_of, opened
from wellstrewn.shower import show_book, show_content, show_deed, show_place, show_shuffle

FORMS = ("book NAME", "race NAME NAME 0", "do NAME 0 leave ann", "cut 0", "log", "books", "races", "show NAME",
         "many NAME", "nth NAME 0", "left NAME", "seen NAME", "fits NAME", "chance NAME straw at ann cliff 0",
         "state NAME")
NAME, N = "[a-z][a-z0-9]{0,11}", "(0|[1-9][0-9]{0,39})"
# Of the lines of these tests, those that have one of the forms.
PATTERNS = [re.compile(pattern.replace("NAME", NAME).replace("<n>", N)) for pattern in (
    "book NAME( .*)?", "race NAME NAME <n>", "do NAME <n> .+", "cut <n>", "log|books|races", "(show|many|left) NAME",
    "(seen|fits|state) NAME", "nth NAME <n>", "chance NAME straw at ann cliff 0")]


def full_desk():
    return Desk(full_house().text())


def place_words(book, place):
    return show_deed(book, ("open", place))[len("open "):]


class Answers(support.SameAgain, unittest.TestCase):

    def test_leading_a_house(self):
        desk, house = Desk(""), House("")
        for line, call, arguments in [
                ("book tiny " + TINY.replace("\n", " | "), "put_book", ("tiny", TINY)),
                ("  book   x  world  a |  | region b  2 |  ", "put_book", ("x", "world a\n\nregion b 2\n")),
                ("race r tiny 0", "put_race", ("r", "tiny", 0)), (" race  q  x 0 ", "put_race", ("q", "x", 0)),
                ("do r 3 open ann shore 0", "do", ("r", 3, "open ann shore 0")),
                ("do  r  3   open  ann   cliff 0", "do", ("r", 3, "open ann cliff 0")),
                ("do q %d leave a" % (10 ** 40 - 1), "do", ("q", 10 ** 40 - 1, "leave a"))]:
            self.assertEqual(desk.execute(line), ["done"])
            getattr(house, call)(*arguments)
            self.assertEqual(desk.house().text(), house.text())

    def test_books_and_races(self):
        desk = full_desk()
        for line, right in [("books", ["duo", "tiny"]), ("races", ["a", "long2", "r"]), ("  books ", ["duo", "tiny"]),
                            ("show tiny", TINY.split("\n")), ("show duo", DUO.split("\n")), ("many tiny", ["1"]),
                            ("many duo", ["15"]), ("log", desk.house().text().split("\n")[:-1])]:
            before = shown(desk.house())
            self.assertEqual(self.answer_of(desk, line), right)
            self.assertEqual(shown(desk.house()), before)
        for line in ("books", "races", "log"):
            self.assertEqual(Desk("").execute(line), [])

    def answer_of(self, desk, line):
        """What a line that asks answers, twice alike, a new list each time."""
        found = desk.execute(line)
        self.assertEqual((type(found), {type(row) for row in found} - {str}), (list, set()))
        right = list(found)
        found.append("x")
        self.assertEqual(desk.execute(line), right)
        return right

    def test_nth(self):
        desk = full_desk()
        book = desk.house().books()["duo"]
        for n in range(15):
            right = show_shuffle(book, numbering.nth_shuffle(book, n)).split("\n")
            self.assertEqual(self.answer_of(desk, "nth duo %d" % n), right)
        self.assertEqual(self.answer_of(desk, "nth  tiny 0"), ["thing hook ann shore 0"])
        desk.execute("book bare world a | region b 1")
        self.assertEqual(self.answer_of(desk, "nth bare 0"), [])
        for line, many in [("nth duo 15", 15), ("nth tiny 1", 1), ("nth tiny " + "9" * 40, 1), ("nth bare 1", 1)]:
            with self.assertRaises(errors.NoNumber) as caught:
                desk.execute(line)
            self.assertEqual(caught.exception.many, many)

    def test_what_a_race_tells(self):
        rng = random.Random(290)
        words = set()
        for gone in [gone for gone in goods.SOME_GOOD if len(gone.good) > 2][::4]:
            book, n = gone.book, rng.randrange(len(gone.good))
            desk = Desk("")
            desk.execute("book x " + show_book(book).replace("\n", " | "))
            desk.execute("race r x %d" % n)
            state, shuffle = ((), (), ()), gone.good[n]
            for k, deed in enumerate((*reckon.some_play(rng, book, shuffle, 0.1, 7), None)):
                house = desk.house()
                right = [show_deed(book, other) for other in reckon.deeds(book, shuffle, state)]
                self.assertEqual(self.answer_of(desk, "left r"), right)
                seen = house.known("r")[0]
                right = [show_content(book, content) + " at " + show_place(book, place) for place, content in seen]
                self.assertEqual(self.answer_of(desk, "seen r"), right)
                words |= {row.split(" ")[0] for row in right}
                self.assertEqual(self.answer_of(desk, "fits r"), [str(len(gone.fitting((seen, ()))))])
                whole = reckon.left_open(book, shuffle, state) == ((), ())
                self.assertEqual(self.answer_of(desk, "state r"), ["whole" if whole else "open"])
                self.check_chances(rng, desk, book)
                if deed is not None:
                    self.assertEqual(desk.execute("do r %d %s" % (k, show_deed(book, deed))), ["done"])
                    state = reckon.after(state, deed)
        self.assertEqual(words, {"straw", "key", "big", "thing"})

    def check_chances(self, rng, desk, book):
        places = support.places_in_order(book)
        for place in rng.sample(places, min(3, len(places))):
            for content in goods.contents_of(book):
                line = "chance r %s at %s" % (show_content(book, content), place_words(book, place))
                right = "%d/%d" % desk.house().chance("r", place, content)
                self.assertEqual(self.answer_of(desk, line.replace(" ", "  ")), [right])

    def test_a_thing_called_at(self):
        desk = Desk("")
        desk.execute("book b world at | region at 2 | thing at at | thing straw at")
        desk.execute("race at b 0")
        for line, right in [("chance at thing at at at at 0", "1/2"), ("chance at thing straw at at at 1", "1/2"),
                            ("chance at straw at at at 0", "0/1"), ("chance at key at at at 0", "0/1"),
                            ("chance at big at at at 0", "0/1")]:
            self.assertEqual(desk.execute(line), [right])

    def test_cut(self):
        text = full_house().text()
        for n in [0, 1, 5, len(text) - 1, len(text), len(text) + 9, 10 ** 39, *range(0, len(text), 37)]:
            desk = full_desk()
            self.assertEqual(desk.execute(" cut  %d " % n), ["done"])
            self.assertEqual(shown(desk.house()), shown(House(text[:n])))


class Refusals(support.SameAgain, unittest.TestCase):

    def refused(self, desk, command, error, **fields):
        before = shown(desk.house())
        with self.assertRaises(errors.StrewError) as caught:
            self.answer(desk.execute, command)
        self.assertIs(type(caught.exception), error, command)
        self.assertEqual(repr(vars(caught.exception)), repr(fields), command)
        self.assertEqual(shown(desk.house()), before)

    def test_no_commands(self):
        desk = full_desk()
        for line in ["", " ", "   ", "|", "x", "put_book", "Book", "deed r 3 leave ann", "text", "house", "known r", "twin",
                     "shuffle r", "races r", "books tiny", "log 1", "log log", "cut", "cut 1 1", "book", "book Tiny world",
                     "book 2x world a", "race", "race b", "race b tiny", "race b tiny 0 0", "race B tiny 0",
                     "race b Tiny 0", "race b tiny x", "do", "do a", "do a 0", "do A 0 leave ann", "do a leave ann",
                     "show", "show tiny duo", "show Tiny", "show ti-ny", "many", "many tiny tiny", "many tiny 0", "nth",
                     "nth tiny", "nth tiny 0 0", "nth 0 tiny", "left", "left r r", "left R", "seen", "seen r 0", "fits",
                     "fits r r", "state", "state r r", "chance", "chance r", "chance r straw", "chance r straw at",
                     "chance straw at ann cliff 0", "chance r at ann cliff 0", "chance r straw ann cliff 0",
                     "chance r straw at ann cliff", "chance r straw at cliff 0", "chance r straw at ann cliff 0 0 0",
                     "chance r thing at ann cliff 0", "chance r thing hook ann cliff 0", "chance r hook at ann cliff 0",
                     "chance r straw straw at ann cliff 0", "chance r thing hook hook at ann cliff 0",
                     "chance r thing Hook at ann cliff 0", "chance r Straw at ann cliff 0", "chance r straw At ann cliff 0",
                     "chance r straw at ann cliff 0 x", "chance r straw at at ann cliff 0", "\tbooks", "books\t"]:
            self.refused(desk, line, errors.NoCommand)

    def test_each_form_with_a_word_more_or_less_or_in_capitals(self):
        desk = full_desk()
        for form in FORMS:
            for name in ("tiny", "r", "nix"):
                words = form.replace("NAME", name).split(" ")
                for other in [words + ["~"]] + [words[:k] + words[k + 1:] for k in range(len(words))]:
                    self.check_form(desk, " ".join(other))
                for k in range(len(words)):
                    self.check_form(desk, " ".join(words[:k] + [words[k].upper()] + words[k + 1:]))
                self.refused(desk, " ".join(words) + "\n", errors.NoCommand)
                self.refused(desk, "\n".join(words) + "\n", errors.NoCommand)

    def check_form(self, desk, line):
        """A line that has none of the forms is refused; others are not, but for what the house refuses."""
        if [pattern for pattern in PATTERNS if pattern.fullmatch(line)] == []:
            self.refused(desk, line, errors.NoCommand)
            return
        try:
            Desk(desk.house().text()).execute(line)
        except errors.StrewError as error:
            self.assertNotIsInstance(error, (errors.NoCommand, errors.Wrong), line)

    def test_numbers(self):
        desk = full_desk()
        for word in ["00", "01", "+0", "-0", "-1", "0x0", "1_0", "0.0", "0,", "x", "one", "1" * 41, "1" + "0" * 40]:
            for line in ["cut " + word, "race b tiny " + word, "race b nix " + word, "do a %s leave ann" % word,
                         "do nix %s leave ann" % word, "nth tiny " + word, "nth nix " + word,
                         "chance r straw at ann cliff " + word, "chance nix straw at ann cliff " + word]:
                self.refused(desk, line, errors.NoCommand)
        forty = "9" * 40
        self.refused(desk, "race b tiny " + forty, errors.NoNumber, many=1)
        self.refused(desk, "nth tiny " + forty, errors.NoNumber, many=1)
        self.refused(desk, "race b nix " + forty, errors.NoName, name="nix")
        self.refused(desk, "chance r straw at ann cliff " + forty, errors.NoCommand)
        self.assertEqual(desk.execute("do a %s open ann shore 0" % forty), ["done"])
        self.refused(desk, "do a 0 open ann cliff 0", errors.NoDeed, index=1)
        self.assertEqual(desk.execute("cut " + forty), ["done"])
        self.assertEqual(desk.execute("races"), ["a", "long2", "r"])

    def test_no_such_race_or_book(self):
        desk = full_desk()
        for line in ["show NIX", "many NIX", "nth NIX 0", "nth NIX 99", "race b NIX 0", "left NIX", "seen NIX", "fits NIX",
                     "state NIX", "chance NIX straw at ann cliff 0", "chance NIX thing hook at ann cliff 0",
                     "chance NIX key at nowhere at 3", "chance NIX big at n k 1 1", "chance NIX thing nix at x y 9",
                     "do NIX 0 leave ann", "do NIX 0 x"]:
            names = ("nix", "r") if line.split(" ")[0] in ("show", "many", "nth", "race") else ("nix", "tiny")
            for name in names:
                self.refused(desk, line.replace("NIX", name), errors.NoName, name=name)

    def test_contents_and_places_that_the_book_has_not(self):
        desk = full_desk()
        for line in ["chance r thing rope at ann cliff 0", "chance r thing nix at ann cliff 0",
                     "chance r straw at ann cliff 1", "chance r straw at ann cliff 0 0", "chance r straw at n c 0",
                     "chance r straw at ann k 0", "chance r straw at bob cliff 0", "chance r straw at cliff ann 0",
                     "chance long2 straw at n k 1", "chance long2 straw at n k 0 1", "chance long2 straw at n k 2 0",
                     "chance long2 straw at ann cliff 0", "chance long2 thing ann at n c 0",
                     "chance long2 straw at s z 0"]:
            self.refused(desk, line, errors.NoCommand)
        for line, right in [("chance r key at ann cliff 0", "0/1"), ("chance r big at ann cliff 0", "0/1"),
                            ("chance a thing hook at ann shore 0", "1/1"), ("chance a big at ann shore 0", "0/1")]:
            self.assertEqual(desk.execute(line), [right])
        self.assertEqual(len(desk.execute("chance long2 key at n k 1 1")), 1)

    def test_what_the_house_refuses(self):
        desk = full_desk()
        for line, error, fields in [
                ("book tiny", errors.Twice, {"name": "tiny"}), ("book new", errors.NoText, {"line": 1}),
                ("book new world a", errors.NoText, {"line": 1}), ("book new world a |", errors.NoText, {"line": 2}),
                ("book new |", errors.NoText, {"line": 2}), ("book new world a | x | y", errors.NoText, {"line": 1}),
                ("book new world a| region b 0", errors.NoText, {"line": 0}),
                ("race r nix 9", errors.Twice, {"name": "r"}), ("race b tiny 1", errors.NoNumber, {"many": 1}),
                ("do r 9 x", errors.NoText, {"line": 0}), ("do r 9 |", errors.NoText, {"line": 0}),
                ("do r 0 x", errors.NoText, {"line": 0}), ("do r 2 leave ann", errors.NoDeed, {"index": 2}),
                ("do a 0 open ann cliff 0", errors.NoDeed, {"index": 0})]:
            self.refused(desk, line, error, **fields)

    def test_line_feeds(self):
        desk = full_desk()
        for line in ["books\n", "\nbooks", "book new world a\nregion b 0", "do a 0 leave ann\n", "do a 0\nleave ann", "\n",
                     "cut\n0", "show tiny\n"]:
            self.refused(desk, line, errors.NoCommand)

    def test_any_value(self):
        desk = full_desk()
        for value in (*support.STRANGE, House(""), desk, Desk):
            if isinstance(value, str):
                self.refused(desk, value, errors.NoCommand)
            else:
                for call in (desk.execute, Desk):
                    with self.assertRaises(errors.Wrong) as caught:
                        call(value)
                    self.assertEqual(repr(caught.exception.place), "0")
        self.assertEqual(desk.house().text(), full_house().text())


class Apart(unittest.TestCase):

    def test_the_house_of_a_text(self):
        text = full_house().text()
        for other in (text, text[:-1], text + "x", "", "nothing", journal_of(("nothing",))):
            self.assertEqual(shown(Desk(other).house()), shown(House(other)))

    def test_told_houses_go_on_alone(self):
        desk = full_desk()
        house = desk.house()
        house.put_race("b", "tiny", 0)
        self.assertEqual(desk.house().text(), full_house().text())
        desk.execute("do a 0 leave ann")
        self.assertEqual(opened(house.text())[-1], "race b tiny 0")
        self.assertEqual(house.races()["a"][2], ())

    def test_twins(self):
        desk = full_desk()
        twin = desk.twin()
        self.assertTrue(twin == desk and twin is not desk)
        twin.execute("do a 0 leave ann")
        twin.execute("book x world a | region b 0")
        self.assertEqual(shown(desk.house()), shown(full_house()))
        self.assertFalse(twin == desk)
        other = shown(twin.house())
        desk.execute("cut 0")
        self.assertEqual(shown(twin.house()), other)
        self.assertEqual(desk.execute("log"), [])

    def test_equality(self):
        desk = full_desk()
        for other in (Desk(""), desk.house(), full_house().text(), None, 0, (), [], {}, Desk, Desk(full_house().text()[:-1])):
            self.assertIs(desk == other, False)
            self.assertIs(other == desk, False)
            self.assertIs(desk != other, True)
        for other in (desk, desk.twin(), full_desk(), Desk(full_house().text() + "0")):
            self.assertIs(desk == other, True)
            self.assertIs(desk != other, False)
        self.assertEqual(desk.house().books()["tiny"], TINY_BOOK)


if __name__ == "__main__":
    unittest.main()
