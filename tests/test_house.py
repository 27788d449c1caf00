"""[39], [40], [9]: a house."""

import random
import unittest

from tests import goods, reckon, support
from wellstrewn import errors, knowledge
from wellstrewn.house import House
from wellstrewn.journal import journal_of, opened
from wellstrewn.shower import show_book, show_deed

TINY = "world ann\nregion shore 1\nregion cliff 1\nthing hook ann\narrow ann shore cliff hook"
TINY_BOOK = ((("ann", (("shore", 1, None), ("cliff", 1, None)), ((0, 1, (0,)),)),), (("hook", 0),))
DUO = "world n\nregion c 1\nregion k 1\ndungeon 1 1\nroom lock 0 2\nworld s\nregion y 2\nregion z 0\nthing hook n\n" \
      "thing rope s\narrow n c k hook\narrow s y z rope"
SHORE, CLIFF = ("open", (0, 0, -1, 0)), ("open", (0, 1, -1, 0))


def full_house():
    """A house with two BOOKS, and with RACES of both."""
    house = House("")
    house.put_book("tiny", TINY)
    house.put_race("r", "tiny", 0)
    house.do("r", 3, "open ann shore 0")
    house.put_book("duo", DUO)
    house.put_race("long2", "duo", 13)
    house.do("r", 3, "  open   ann cliff 0 ")
    for tick in (0, 10 ** 39, 10 ** 40 - 1):
        house.do("long2", tick, show_deed(house.books()["duo"], house.left("long2")[-1]))
    house.do("long2", 10 ** 40 - 1, "leave s")
    house.put_race("a", "tiny", 0)
    return house


def shown(house):
    """All that a house tells."""
    rows = [house.text(), house.books(), house.races()]
    for name in house.races():
        rows += [house.shuffle(name), house.state(name), house.left(name), house.known(name), house.many_left(name)]
    return repr(rows)


class Calls(support.SameAgain, unittest.TestCase):

    def refused(self, house, error, value, call, *arguments):
        """A call is refused, and nothing is changed by it."""
        before = shown(house)
        with self.assertRaises(errors.StrewError) as caught:
            self.answer(getattr(house, call), *arguments)
        self.assertIs(type(caught.exception), error, (call, arguments))
        field = {errors.Wrong: "place", errors.NoText: "line", errors.NoNumber: "many", errors.NoDeed: "index"}
        self.assertEqual(repr(getattr(caught.exception, field.get(error, "name"))), repr(value), (call, arguments))
        self.assertEqual(shown(house), before)

    def test_what_is_kept(self):
        house = full_house()
        self.assertEqual(repr(list(house.books())), repr(["duo", "tiny"]))
        self.assertEqual(house.books()["tiny"], TINY_BOOK)
        self.assertEqual(show_book(house.books()["duo"]), DUO)
        races = house.races()
        self.assertEqual(list(races), ["a", "long2", "r"])
        self.assertEqual(races["r"], ("tiny", 0, ((3, SHORE), (3, CLIFF))))
        self.assertEqual(races["a"], ("tiny", 0, ()))
        self.assertEqual(races["long2"][:2], ("duo", 13))
        self.assertEqual([tick for tick, _ in races["long2"][2]], [0, 10 ** 39, 10 ** 40 - 1, 10 ** 40 - 1])

    def test_each_call_returns_nothing_and_writes_one_record(self):
        house = House("")
        for call, arguments, record in [("put_book", ("tiny", "\n " + TINY + "\n\n"), "book tiny " +
                                         TINY.replace("\n", "|")), ("put_race", ("r", "tiny", 0), "race r tiny 0"),
                                        ("do", ("r", 7, " open  ann shore 0"), "deed r 7 open ann shore 0"),
                                        ("do", ("r", 7, "leave ann"), "deed r 7 leave ann"),
                                        ("put_race", ("tiny", "tiny", 0), "race tiny tiny 0"),
                                        ("put_book", ("r", "world a\nregion b 0"), "book r world a|region b 0")]:
            before = opened(house.text())
            self.assertIsNone(getattr(house, call)(*arguments))
            self.assertEqual(opened(house.text()), before + (record,))
            self.assertEqual(house.text(), journal_of(before + (record,)))

    def test_put_book_refused(self):
        house = full_house()
        for name in (None, True, 7, "", "Tiny", "2x", "a b", "x" * 13, ("tiny",), House("")):
            for text in (TINY, None, "", "world"):
                self.refused(house, errors.Wrong, 0, "put_book", name, text)
        for text in (None, False, 3, [TINY], (), {}, House("")):
            for name in ("tiny", "new"):
                self.refused(house, errors.Wrong, 1, "put_book", name, text)
        for text in (TINY, DUO, "", "world"):
            self.refused(house, errors.Twice, "tiny", "put_book", "tiny", text)
        for text, line in [("", 1), ("world", 0), ("world a\n", 2), ("world a\nregion b 1|", 1), (TINY + "\nx", 5),
                           (TINY.replace("\n", "|"), 0)]:
            self.refused(house, errors.NoText, line, "put_book", "new", text)

    def test_put_race_refused(self):
        house = full_house()
        for name in (None, 0, "", "R", "a b", "x" * 13, ["r"]):
            self.refused(house, errors.Wrong, 0, "put_race", name, None, -1)
        for book in (None, 0, "", "Tiny", ("tiny",)):
            for name in ("r", "new"):
                self.refused(house, errors.Wrong, 1, "put_race", name, book, None)
        for n in (None, True, False, -1, "0", (0,), [], House("")):
            for name, book in (("r", "tiny"), ("new", "tiny"), ("new", "nix")):
                self.refused(house, errors.Wrong, 2, "put_race", name, book, n)
        for book, n in (("tiny", 0), ("tiny", 9), ("nix", 0)):
            self.refused(house, errors.Twice, "r", "put_race", "r", book, n)
        for n in (0, 99):
            self.refused(house, errors.NoName, "nix", "put_race", "new", "nix", n)
        for n in (1, 2, 10 ** 39):
            self.refused(house, errors.NoNumber, 1, "put_race", "new", "tiny", n)
        self.refused(house, errors.NoName, "r", "put_race", "new", "r", 0)

    def test_do_refused(self):
        house = full_house()
        for name in (None, 0, "", "R", "a b", "x" * 13, ["r"]):
            self.refused(house, errors.Wrong, 0, "do", name, -1, None)
        for tick in (None, True, False, -1, "3", (3,), House("")):
            for name in ("r", "nix"):
                self.refused(house, errors.Wrong, 1, "do", name, tick, None)
        for words in (None, True, 0, ["leave ann"], CLIFF, House("")):
            for name in ("r", "nix"):
                self.refused(house, errors.Wrong, 2, "do", name, 3, words)
        for words in ("leave ann", "", "x"):
            self.refused(house, errors.NoName, "nix", "do", "nix", 0, words)
        self.refused(house, errors.NoName, "tiny", "do", "tiny", 9, "leave ann")
        for words in ("", " ", "x", "open", "open ann shore 1", "open ann shore 00", "leave bob", "leave ann\n",
                      "\nleave ann", "unlock ann shore 0", "leave ann ann", "leave|ann"):
            for tick in (0, 9):
                self.refused(house, errors.NoText, 0, "do", "r", tick, words)
        for tick, words in [(9, "open ann shore 0"), (2, "leave ann"), (0, "leave ann"), (2, "open ann shore 0")]:
            self.refused(house, errors.NoDeed, 2, "do", "r", tick, words)
        self.refused(house, errors.NoDeed, 0, "do", "a", 0, "open ann cliff 0")
        self.refused(house, errors.NoDeed, 4, "do", "long2", 10 ** 40 - 1, "leave s")

    def test_any_value(self):
        house = full_house()
        for value in support.STRANGE:
            for call, arguments, place in [("put_book", (value, TINY), 0), ("put_book", ("tiny", value), 1),
                                           ("put_race", (value, "tiny", 0), 0), ("put_race", ("r", value, 0), 1),
                                           ("put_race", ("r", "tiny", value), 2), ("do", (value, 0, "x"), 0),
                                           ("do", ("nix", value, "x"), 1), ("do", ("nix", 0, value), 2)]:
                is_name = isinstance(value, str) and value in ("a", "straw")
                fits = {"put_book": (is_name, isinstance(value, str)), "do": (is_name, None, isinstance(value, str)),
                        "put_race": (is_name, is_name, None)}[call][place]
                if fits is None:
                    fits = type(value) is int and value >= 0
                if not fits:
                    self.refused(house, errors.Wrong, place, call, *arguments)
            if not isinstance(value, str):
                with self.assertRaises(errors.Wrong) as caught:
                    House(value)
                self.assertEqual(repr(caught.exception.place), "0")

    def test_ticks_alike_and_later(self):
        house = House("")
        house.put_book("tiny", TINY)
        house.put_race("r", "tiny", 0)
        house.do("r", 0, "open ann shore 0")
        house.do("r", 0, "open ann cliff 0")
        house.do("r", 10 ** 39, "leave ann")
        self.assertEqual(house.races()["r"][2], ((0, SHORE), (0, CLIFF), (10 ** 39, ("leave", 0))))
        self.refused(house, errors.NoDeed, 3, "do", "r", 10 ** 39, "leave ann")

    def test_what_was_told_may_be_changed(self):
        house = full_house()
        before = shown(house)
        for told in (house.books(), house.races()):
            told["new"] = told.pop("tiny", None)
            told.clear()
        self.assertEqual(shown(house), before)


class Texts(support.SameAgain, unittest.TestCase):

    def test_house_of_its_text(self):
        house = full_house()
        other = House(house.text())
        self.assertEqual((other.text(), shown(other)), (house.text(), shown(house)))
        self.assertTrue(other == house)
        self.assertEqual(House("").text(), "")

    def test_cut_at_each_sign(self):
        house = full_house()
        text = house.text()
        steps = [House("")]
        for record in opened(text):
            steps.append(House(journal_of(opened(steps[-1].text()) + (record,))))
        self.assertEqual(len({step.text() for step in steps}), len(opened(text)) + 1)
        for cut in range(len(text) + 1):
            found = House(text[:cut])
            right = steps[text[:cut].count("\n")]
            self.assertEqual(found.text(), right.text())
            self.assertEqual((found.books(), found.races()), (right.books(), right.races()))

    def test_signs_behind(self):
        house = full_house()
        text = house.text()
        for behind in ("\n", "x", " ", text, "11", text.split("\n")[3] + "\n", "~" * 500):
            self.assertEqual(House(text + behind).text(), text)
        more = journal_of(opened(text) + ("race b tiny 0", "deed b 1 leave ann", "nonsense"))
        found = House(more)
        self.assertEqual(opened(found.text()), opened(more)[:-1])
        self.assertTrue(found.text().startswith(text))
        self.assertEqual(found.races()["b"], ("tiny", 0, ((1, ("leave", 0)),)))

    def test_a_line_otherwise(self):
        text = full_house().text()
        lines = text.split("\n")[:-1]
        for k, line in enumerate(lines):
            ahead = "".join([other + "\n" for other in lines[:k]])
            for other in (line[:-1], line + "x", " " + line, line[1:], "", line.replace(" ", "  ", 1), line.upper()):
                self.assertEqual(House(ahead + other + "\n" + "\n".join(lines[k + 1:])).text(), ahead)
        for k in range(len(lines)):
            records = [line.split(" ", 2)[2] for line in lines]
            wrong = journal_of(records[:k] + [records[k] + "x"] + records[k + 1:])
            self.assertTrue(text.startswith(House(wrong).text()) and House(wrong).text().count("\n") == k)

    def check(self, ahead, record, taken):
        """Whether a RECORD behind others is taken, and with it what stands behind it."""
        behind = "book zz world a|region b 0"
        found = opened(House(journal_of((*ahead, record, behind))).text())
        self.assertEqual(found, (*ahead, record, behind) if taken else tuple(ahead), record)

    def test_records_that_are_none_or_are_refused(self):
        tiny = "book tiny " + TINY.replace("\n", "|")
        self.check((), tiny, True)
        for record in ["book", "book ", "book tiny", "book tiny ", " " + tiny, "book  tiny world a|region b 0", "Book x y",
                       "book Tiny world a|region b 0", "book tiny world a", "books tiny world a|region b 0",
                       "book tiny world a|region b 0|x", "book tiny world a||region c", "race r tiny 0", "x", " ", "|",
                       "deed r 0 leave ann", "book " + "x" * 13 + " world a|region b 0", "book|tiny|world a|region b 0"]:
            self.check((), record, False)
        for record, taken in [
                (tiny, False), ("book other world a|region b 0", True), ("race r tiny 0", True), ("race tiny tiny 0", True),
                ("race r tiny 1", False), ("race r nix 0", False), ("race r tiny 00", False), ("race r tiny +0", False),
                ("race r tiny -0", False), ("race r  tiny 0", False), ("race  r tiny 0", False),
                ("race r tiny  0", False), ("race r tiny 0 ", False), (" race r tiny 0", False), ("race r tiny", False),
                ("race r tiny ", False), ("race r tiny 0 0", False), ("race R tiny 0", False), ("race r Tiny 0", False),
                ("race r tiny " + "0" * 2, False), ("race r tiny " + "1" * 40, False), ("race", False), ("race ", False),
                ("race r tiny 0x", False), ("deed r 0 leave ann", False),
                ("do r 0 leave ann", False), ("put_race r tiny 0", False)]:
            self.check((tiny,), record, taken)
        race = (tiny, "race r tiny 0", "deed r 3 open ann shore 0")
        for record, taken in [
                ("deed r 3 open ann cliff 0", True), ("deed r 3  open  ann   cliff 0  ", True), ("deed r 3 leave ann", True),
                ("deed r 4 open ann shore 0", False), ("deed r 2 leave ann", False), ("deed  r 3 leave ann", False),
                ("deed r  3 leave ann", False), (" deed r 3 leave ann", False), ("deed r 03 leave ann", False),
                ("deed r +3 leave ann", False), ("deed r -3 leave ann", False), ("deed r 3 ", False), ("deed r 3", False),
                ("deed r", False), ("deed", False), ("deed r 3 x", False), ("deed r leave ann", False),
                ("deed nix 3 leave ann", False), ("deed R 3 leave ann", False), ("deed r 3 leave bob", False),
                ("deed r 3 leave|ann", False), ("deed r %d leave ann" % 10 ** 39, True), ("race r tiny 0", False),
                ("deed r 1" + "0" * 39 + " leave ann", True), ("deed r 1" + "0" * 40 + " leave ann", False),
                ("deed r " + "9" * 40 + " leave ann", True), ("deed r " + "9" * 41 + " leave ann", False),
                ("deed r 3,leave ann", False), ("deed r three leave ann", False)]:
            self.check(race, record, taken)

    def test_more_blanks_are_kept_as_they_stood(self):
        records = ("book tiny  world  ann| region shore 1 ||region cliff 1|thing hook  ann|arrow ann shore cliff hook |",
                   "race r tiny 0", "deed r 3    open ann  shore 0 ")
        house = House(journal_of(records))
        self.assertEqual(house.text(), journal_of(records))
        self.assertEqual(house.books(), {"tiny": TINY_BOOK})
        self.assertEqual(house.races(), {"r": ("tiny", 0, ((3, SHORE),))})
        house.do("r", 4, "  open  ann cliff  0")
        self.assertEqual(opened(house.text()), records + ("deed r 4 open ann cliff 0",))
        self.assertEqual(House(house.text()).text(), house.text())
        plain = House("")
        plain.put_book("tiny", TINY)
        plain.put_race("r", "tiny", 0)
        plain.do("r", 3, "open ann shore 0")
        plain.do("r", 4, "open ann cliff 0")
        self.assertEqual((plain.books(), plain.races()), (house.books(), house.races()))
        self.assertFalse(plain == house)

    def test_going_on_behind_a_cut(self):
        house = House(full_house().text()[:-1])
        self.assertEqual(list(house.races()), ["long2", "r"])
        house.put_race("a", "tiny", 0)
        self.assertEqual(house.text(), full_house().text())

    def test_twins(self):
        house = full_house()
        twin = house.twin()
        self.assertTrue(twin == house and twin is not house)
        before = shown(house)
        self.assertEqual(shown(twin), before)
        twin.put_race("b", "duo", 1)
        twin.do("a", 1, "open ann shore 0")
        twin.put_book("x", TINY)
        self.assertEqual(shown(house), before)
        self.assertFalse(twin == house)
        other = shown(twin)
        house.do("a", 0, "leave ann")
        self.assertEqual(shown(twin), other)
        self.assertNotEqual(shown(house), before)

    def test_equality(self):
        house = full_house()
        for other in (House(""), House(house.text()[:-1]), house.text(), None, 0, (), [], {}, House, errors.Wrong(0)):
            self.assertIs(house == other, False)
            self.assertIs(other == house, False)
            self.assertIs(house != other, True)
        for other in (house, house.twin(), full_house(), House(house.text())):
            self.assertIs(house == other, True)
            self.assertIs(house != other, False)
        self.assertIs(House("") == House("nothing"), True)
        # The same BOOKS in another order are another text.
        one, two = House(""), House("")
        for name in ("a", "b"):
            one.put_book(name, TINY)
        for name in ("b", "a"):
            two.put_book(name, TINY)
        self.assertEqual(one.books(), two.books())
        self.assertIs(one == two, False)


class Told(support.SameAgain, unittest.TestCase):

    def test_no_such_race(self):
        house = full_house()
        for name in ("nix", "tiny", "duo"):
            for call, more in [("shuffle", ()), ("state", ()), ("left", ()), ("known", ()), ("many_left", ()),
                               ("chance", ((0, 0, -1, 0), ("straw",)))]:
                with self.assertRaises(errors.NoName) as caught:
                    getattr(house, call)(name, *more)
                self.assertEqual(caught.exception.name, name)

    def test_along_races(self):
        rng = random.Random(280)
        steps = 0
        for gone in [gone for gone in goods.SOME_GOOD if len(gone.good) > 2][::3]:
            house, book = House(""), gone.book
            house.put_book("x", show_book(book))
            n = rng.randrange(len(gone.good))
            house.put_race("r", "x", n)
            shuffle, state = gone.good[n], ((), (), ())
            log = reckon.some_play(rng, book, shuffle, 0.1, 9)
            for k, deed in enumerate((*log, None)):
                seen = knowledge.seen_in(book, shuffle, state)
                found = (house.shuffle("r"), house.state("r"), house.left("r"), house.known("r"))
                self.assertEqual(repr(found), repr((shuffle, state, reckon.deeds(book, shuffle, state), seen)))
                fitting = gone.fitting(seen)
                self.assertEqual(repr(house.many_left("r")), repr(len(fitting)))
                self.check_chances(rng, house, book, fitting)
                steps += 1
                if deed is not None:
                    house.do("r", k, show_deed(book, deed))
                    state = reckon.after(state, deed)
            self.assertEqual(House(house.text()).known("r"), seen)
        self.assertGreater(steps, 60)

    def check_chances(self, rng, house, book, fitting):
        places = support.places_in_order(book)
        for k in rng.sample(range(len(places)), min(3, len(places))):
            for content in goods.contents_of(book):
                n, d = house.chance("r", places[k], content)
                many = len([shuffle for shuffle in fitting if shuffle[k] == content])
                self.assertEqual(n * len(fitting), d * many)
                self.assertTrue((many > 0 or (n, d) == (0, 1)) and (many < len(fitting) or (n, d) == (1, 1)))


if __name__ == "__main__":
    unittest.main()
