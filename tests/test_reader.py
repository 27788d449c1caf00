"""[4], [14], [15]: texts read."""

import random
import re
import unittest

from tests import support
from tests.test_shower import BOOK, TEXT, shown_place
from wellstrewn.errors import NoText, Wrong
from wellstrewn.reader import read_book, read_deed, read_shuffle
from wellstrewn.shower import show_book, show_deed, show_shuffle

NUMBER = "(0|[1-9][0-9]{0,8})"
NAME = "([a-z][a-z0-9]{0,11})"
LINES = [(sort, re.compile(sort + pattern)) for sort, pattern in [
    ("world", " " + NAME), ("region", " %s %s" % (NAME, NUMBER)), ("dungeon", " %s %s" % (NUMBER, NUMBER)),
    ("room", " (open|lock|bar) %s %s" % (NUMBER, NUMBER)), ("thing", " %s %s" % (NAME, NAME)),
    ("arrow", " %s %s %s((?: %s)*)" % (NAME, NAME, NAME, NAME))]]


class Reading:
    """Texts of books read once more, by patterns and dicts; a false line raises KeyError."""

    def __init__(self):
        self.worlds, self.things, self.region = {}, {}, None

    def need(self, test):
        if not test:
            raise KeyError

    def line(self, line):
        for sort, pattern in LINES:
            found = pattern.fullmatch(line)
            if found:
                return getattr(self, sort)(*found.groups())
        raise KeyError

    def world(self, name):
        self.need(name not in self.worlds)
        self.worlds[name] = {"regions": {}, "arrows": []}
        self.region = None

    def region_here(self):
        self.need(self.region is not None)
        return self.region

    def thing(self, name, owner):
        self.need(name not in self.things and owner in self.worlds)
        self.things[name] = owner

    def dungeon(self, keys, chests):
        self.need("keys" not in self.region_here())
        self.region.update(keys=int(keys), rooms=[(None, None, int(chests))])

    def room(self, way, parent, chests):
        self.need(int(parent) < len(self.region_here()["rooms"]))
        self.region["rooms"].append((int(parent), way, int(chests)))

    def arrow(self, world, one, other, needs, _):
        names = list(self.worlds[world]["regions"])
        self.need(one in names and other in names)
        needs = needs.split()
        self.need(len(needs) == len(set(needs)) and all(self.things[name] == world for name in needs))
        order = sorted(list(self.things).index(name) for name in needs)
        self.worlds[world]["arrows"].append((names.index(one), names.index(other), tuple(order)))

    def book(self):
        worlds = []
        for name, world in self.worlds.items():
            self.need(world["regions"])
            regions = []
            for label, region in world["regions"].items():
                dungeon = (tuple(region["rooms"]), region["keys"]) if "keys" in region else None
                regions.append((label, region["chests"], dungeon))
            worlds.append((name, tuple(regions), tuple(world["arrows"])))
        self.need(worlds)
        names = list(self.worlds)
        return (tuple(worlds), tuple([(name, names.index(owner)) for name, owner in self.things.items()]))


def begin_region(reading, name, chests):
    reading.need(reading.worlds)
    regions = list(reading.worlds.values())[-1]["regions"]
    reading.need(name not in regions)
    reading.region = regions[name] = {"chests": int(chests)}


def read_again(text):
    """The BOOK that a text shows, or the index of the line at fault, reckoned once more."""
    reading = Reading()
    lines = text.split("\n")
    for k, line in enumerate(lines):
        words = [word for word in line.split(" ") if word]
        try:
            if words and words[0] == "region":
                found = LINES[1][1].fullmatch(" ".join(words))
                reading.need(found)
                begin_region(reading, *found.groups())
            elif words:
                reading.line(" ".join(words))
        except KeyError:
            return k
    try:
        return reading.book()
    except KeyError:
        return len(lines)


def loosened(rng, line):
    """A line with more blanks."""
    words = line.split(" ")
    if words[0] == "arrow":
        needs = words[4:]
        rng.shuffle(needs)
        words[4:] = needs
    first = " " * rng.randint(0, 2) + words[0]
    behind = [" " * rng.randint(1, 3) + word for word in words[1:]]
    return first + "".join(behind) + " " * rng.randint(0, 2)


def is_ready(line, ahead):
    """Whether all that a thing or arrow names is ahead."""
    words = line.split(" ")
    if words[0] == "thing":
        return "world " + words[2] in ahead
    regions = ahead[ahead.index("world " + words[1]) + 1:] if "world " + words[1] in ahead else []
    for k, other in enumerate(regions):
        if other.startswith("world "):
            regions = regions[:k]
            break
    names = [other.split(" ")[1] for other in regions if other.startswith("region ")]
    things = [other.split(" ")[1] for other in ahead if other.startswith("thing ")]
    return words[2] in names and words[3] in names and set(words[4:]) <= set(things)


def mixed(rng, text):
    """The lines of a book in some other order in which what they name is ahead, with blanks and empty lines."""
    lines = text.split("\n")
    heads = [[line for line in lines if line.split(" ")[0] not in ("thing", "arrow")],
             [line for line in lines if line.startswith("thing ")]]
    for world in [line.split(" ")[1] for line in lines if line.startswith("world ")]:
        heads.append([line for line in lines if line.startswith("arrow " + world + " ")])
    ahead = []
    while any(heads):
        ready = [k for k, rows in enumerate(heads) if rows and (k == 0 or is_ready(rows[0], ahead))]
        ahead.append(heads[rng.choice(ready)].pop(0))
    loose = [loosened(rng, line) for line in ahead]
    for _ in range(rng.randint(0, 4)):
        loose.insert(rng.randint(0, len(loose)), " " * rng.randint(0, 3))
    return "\n".join(loose)


def spoilt(rng, text, words):
    """A text with something otherwise: a line, a word, or a sign."""
    lines = text.split("\n")
    k = rng.randrange(len(lines))
    parts = lines[k].split(" ")
    j = rng.randrange(len(parts))
    way = rng.randrange(9)
    if way == 0:
        return "\n".join(lines[:k] + lines[k + 1:])
    if way == 1:
        return "\n".join(lines[:k] + [lines[rng.randrange(len(lines))]] + lines[k:])
    if way == 2:
        other = rng.randrange(len(lines))
        lines[k], lines[other] = lines[other], lines[k]
        return "\n".join(lines)
    if way == 3:
        return text[:rng.randint(0, len(text))]
    if way == 4:
        parts[j:j + 1] = []
    elif way == 5:
        parts.insert(j, rng.choice(words))
    elif way == 6:
        parts[j] = rng.choice(words)
    elif way == 7:
        parts[j] = rng.choice("0+-_aA~ ") + parts[j]
    else:
        other = rng.randrange(len(parts))
        parts[j], parts[other] = parts[other], parts[j]
    lines[k] = " ".join(parts)
    return "\n".join(lines)


class WithErrors(support.SameAgain, unittest.TestCase):

    def line_of(self, function, *arguments):
        with self.assertRaises(NoText) as caught:
            self.answer(function, *arguments)
        return caught.exception.line

    def check_wrong(self, place, function, *ahead):
        for value in support.STRANGE + (b"world a", ["world a"], ("world a\nregion b 0",), {"world": "a"}):
            if type(value) is not str:
                kept = repr(value)
                with self.assertRaises(Wrong) as caught:
                    function(*ahead, value)
                self.assertEqual((caught.exception.place, repr(value)), (place, kept))


class Books(WithErrors):

    def test_what_is_shown_is_read(self):
        for book in [BOOK, *support.SMALL_BOOKS, *support.some_books(80, 8)]:
            text = show_book(book)
            self.assertEqual(self.answer(read_book, text), book)
            self.assertEqual(repr(read_book(text)), repr(book))
            self.assertEqual(read_again(text), book)

    def test_loose_texts(self):
        rng = random.Random(9)
        for book in [BOOK] * 30 + support.some_books(120, 10):
            text = mixed(rng, show_book(book))
            self.assertEqual(read_book(text), book)
            self.assertEqual(show_book(read_book(text)), show_book(book))

    def test_no_book(self):
        for text, line in [("", 1), (" ", 1), ("\n", 2), ("\n\n  \n", 4), ("world a", 1), ("world a\n", 2),
                           ("world a\nworld b\nregion r 0", 3), ("world a\nregion r 0\nworld b", 3),
                           ("world a\nregion r 0\nworld b\n\n\n", 6)]:
            self.assertEqual(self.line_of(read_book, text), line, text)

    def test_bad_lines(self):
        good = ("world a\nregion r 1\nregion s 0\ndungeon 1 1\nroom lock 0 1\nworld b\nregion r 0\n"
                "thing hook a\nthing coin b")
        self.assertEqual(read_book(good)[1], (("hook", 0), ("coin", 1)))
        for line in ("world a", "world b", "world", "world c d", "world C", "world 1", "world abcdefghijklm",
                     "world a\tb",
                     "region", "region r 0", "region x", "region x 01", "region x 00", "region x -1", "region x +1",
                     "region x 1.0",
                     "region x 1234567890", "region x 0000000001", "region x one", "region x 1_0", "region x 0 0",
                     "region X 0",
                     "region x \u0663", "region x \u00b2", "region 0 x", "region t\u00e4 0", "dungeon", "dungeon 0",
                     "dungeon 0 0 0",
                     "dungeon a 0", "dungeon 0 a", "dungeon 00 0", "dungeon 0 -0", "room lock 0 1", "room open 0 0",
                     "thing",
                     "thing hook b", "thing bell", "thing bell c", "thing bell a b", "thing Bell a", "thing coin a",
                     "thing a 0",
                     "arrow", "arrow a", "arrow a r", "arrow c r r", "arrow a r x", "arrow a x r", "arrow b r s",
                     "arrow b s r",
                     "arrow a r s coin", "arrow b r r hook", "arrow a r s hook hook", "arrow a r s rope",
                     "arrow a r s hook rope",
                     "arrow a r s a", "Arrow a r s", "door a", "key a r 0", "World c", "worlds c", "0", "|", "world,c"):
            self.assertEqual(self.line_of(read_book, good + "\n\n" + line + "\nworld"), 10, line)
            self.assertEqual(read_again(good + "\n\n" + line + "\nworld"), 10, line)
        for line in ("world c\nregion r 0", "region x 123456789", "dungeon 999999999 0",
                     "dungeon 0 0\nroom open 0 0\nroom bar 1 0",
                     "thing bell a", "thing a b", "arrow a r r hook", "arrow b r r coin", "arrow a s r",
                     "world abcdefghijkl\nregion r 0",
                     "world region\nregion region 0\nthing thing region\narrow region region region thing"):
            text = good + "\n" + line
            self.assertEqual(read_book(text), read_again(text), line)

    def test_bad_rooms(self):
        good = "world a\nregion r 1\ndungeon 1 1\nroom lock 0 1"
        for line in ("dungeon 1 1", "dungeon 0 0", "room", "room lock 0", "room lock 0 1 1", "room door 0 1",
                     "room lock 2 1",
                     "room lock 9 1", "room lock -1 1", "room lock 01 1", "room 0 lock 1", "room lock 0 x",
                     "room Lock 0 1",
                     "room None 0 1", "room lock None 1"):
            self.assertEqual(self.line_of(read_book, good + "\n" + line), 4, line)
        self.assertEqual(read_book(good + "\nroom bar 1 3")[0][0][1][0][2],
                         (((None, None, 1), (0, "lock", 1), (1, "bar", 3)), 1))

    def test_what_is_named_is_ahead(self):
        for text, line in [("region r 0\nworld a", 0), ("dungeon 0 0", 0), ("world a\ndungeon 0 0\nregion r 0", 1),
                           ("world a\nregion r 0\nroom lock 0 0\ndungeon 0 0", 2),
                           ("thing hook a\nworld a\nregion r 0", 0),
                           ("world a\nregion r 0\nworld b\ndungeon 0 0", 3),
                           ("world a\nregion r 0\nworld b\nroom open 0 0", 3),
                           ("world a\nregion r 0\ndungeon 0 0\nworld b\nroom open 0 0", 4),
                           ("world a\nregion r 0\ndungeon 0 0\nregion s 0\nroom open 0 0", 4),
                           ("world a\nregion r 0\narrow a r s\nregion s 0", 2),
                           ("world a\nregion r 0\narrow a r r t\nthing t a", 2),
                           ("arrow a r r\nworld a\nregion r 0", 0),
                           ("world a\nregion r 0\ndungeon 0 0\nroom lock 1 0", 3)]:
            self.assertEqual(self.line_of(read_book, text), line, text)
            self.assertEqual(read_again(text), line, text)

    def test_the_first_bad_line_counts(self):
        self.assertEqual(self.line_of(read_book, "\n  \nworld a\nregion r x\ndoor\nworld a"), 3)
        self.assertEqual(self.line_of(read_book, "world a\nregion r 0\nregion r 0\nregion r 0"), 2)

    def test_spoilt_texts(self):
        rng = random.Random(11)
        words = ["world", "region", "dungeon", "room", "thing", "arrow", "open", "lock", "bar", "0", "1", "2", "00",
                 "01", "-1", "+1",
                 "9" * 9, "1" + "0" * 9, "r0", "r1", "w0", "w1", "t0", "t1", "north", "south", "camp", "hook", "coin",
                 "Camp", "", "x" * 13]
        bad = 0
        for book in [BOOK] * 12 + support.some_books(40, 12):
            for _ in range(60):
                text = spoilt(rng, mixed(rng, show_book(book)), words)
                right = read_again(text)
                if type(right) is int:
                    bad += 1
                    self.assertEqual(self.line_of(read_book, text), right, text)
                else:
                    self.assertEqual(read_book(text), right, text)
        self.assertGreater(bad, 1000)

    def test_what_is_no_string(self):
        self.check_wrong(0, read_book)

    def test_long_texts(self):
        text = "world a\nregion r 0\ndungeon 0 0" + "\nroom lock 0 0" * 850
        self.assertEqual(len(read_book(text)[0][0][1][0][2][0]), 851)
        for text in ("x" * 12000, " " * 12000, "\n" * 12000, "world a " * 1500):
            self.assertEqual(self.line_of(read_book, text), read_again(text))

    def test_strange_strings(self):
        for text in ("world a\r\nregion r 0", "world\ta\nregion r 0", "world a\x0bregion r 0", "world a\x85region r 0"):
            self.assertEqual(self.line_of(read_book, text), 0, text)


class Shuffles(WithErrors):

    BOOK = ((("w", (("home", 1, support.VAULT), ("keep", 1, support.KEEP), ("hut", 1, None)), ()),
             ("v", (("home", 1, support.NOOK),), ())), (("hook", 0), ("coin", 1)))
    GOOD = ("key w home 0 0", "key w home 0 1", "big w home 1 0", "key w keep 1 1", "thing hook w keep 1 0",
            "thing coin v home 0")

    def test_what_is_shown_is_read(self):
        rng = random.Random(13)
        for book, shuffle in support.books_with_shuffles(80, 14):
            self.assertEqual(self.answer(read_shuffle, book, show_shuffle(book, shuffle)), shuffle)
            lines = show_shuffle(book, shuffle).split("\n")
            rng.shuffle(lines)
            loose = "\n".join([loosened(rng, line) for line in lines] + [""] * rng.randint(0, 2))
            self.assertEqual(repr(read_shuffle(book, loose)), repr(shuffle))

    def test_all_shuffles_of_small_books(self):
        for book in support.SMALL_BOOKS:
            for shuffle in support.all_shuffles(book):
                self.assertEqual(read_shuffle(book, show_shuffle(book, shuffle)), shuffle)

    def test_the_good_one(self):
        straw, key = ("straw",), ("key",)
        right = (straw, key, key, ("big",), straw, straw, straw, straw, ("thing", 0), key, straw, ("thing", 1))
        self.assertEqual(read_shuffle(self.BOOK, "\n".join(self.GOOD)), right)

    def check_line(self, lines, k):
        self.assertEqual(self.line_of(read_shuffle, self.BOOK, "\n".join(lines)), k, lines)

    def test_what_may_not_be_laid(self):
        for line in ("key w home 0 0", "thing hook w home 0 0", "big w home 0 0", "thing coin w keep 1 0",
                     "thing coin w keep 1 1"):
            self.check_line(self.GOOD[:5] + (line, "door"), 5)
        for line in ("thing hook w hut 0", "thing hook v home 0", "key w home 3 0", "key w keep 0 0", "big w home 3 0",
                     "key w home 0", "key w hut 0", "big w home 0", "big w hut 0", "big w keep 0 0", "key v home 0",
                     "big v home 0"):
            self.check_line(self.GOOD[:5] + (line, "door"), 5)

    def test_lines_that_are_none(self):
        for line in ("key", "big", "thing", "straw w hut 0", "key w", "key w home", "key w home 0 0 0",
                     "key w home 9 0", "key w home 3 1",
                     "key w home 4 0", "key w keep 00 0", "key w keep 0 00", "key w keep -1 0", "thing coin",
                     "thing coin v", "thing coin v home",
                     "thing coin v home 1", "thing coin v home 0 0", "thing coin v home 00", "thing coin v home 0 x",
                     "thing coin x home 0",
                     "thing coin v hut 0", "thing rope v home 0", "thing v home 0", "Thing coin v home 0",
                     "thing coin 1 home 0",
                     "thing coin v home +0", "thing coin home 0", "lamp v home 0", "coin v home 0", "open v home 0",
                     "thing 1 v home 0",
                     "key w hut 0 0", "thing coin w hut 0 0", "thing coin v home 1234567890", "key coin w keep 0 0",
                     "big coin w keep 0 0"):
            self.check_line(self.GOOD[:5] + (line, "door"), 5)
            self.check_line(("", line, "", "door"), 1)

    def test_what_lies_nowhere(self):
        for k in range(len(self.GOOD)):
            lines = self.GOOD[:k] + ("", " ") + self.GOOD[k + 1:]
            self.check_line(lines, len(lines))
        self.check_line(("",), 1)
        self.check_line(("", "", ""), 3)
        self.assertEqual(self.line_of(read_shuffle, support.SMALL_BOOKS[-1], "key a x 0 0"), 1)
        self.assertEqual(self.line_of(read_shuffle, support.SMALL_BOOKS[-1], "key a x 0 0\nkey a x 0 0"), 1)

    def test_straw_alone(self):
        book = ((("w", (("r", 2, None),), ()),), ())
        for text in ("", "\n", "  \n "):
            self.assertEqual(read_shuffle(book, text), (("straw",), ("straw",)))

    def read_again(self, book, text):
        """The SHUFFLE that a text shows, or the index of the line at fault, reckoned from all lines there are."""
        places = {shown_place(book, place): place for place in support.places_in_order(book)}
        words = ["key", "big"] + ["thing " + name for name, _ in book[1]]
        known = {word + " " + place: (word, places[place]) for place in places for word in words}
        most = {}
        for shuffle in support.all_shuffles(book)[:1]:
            for place, content in zip(support.places_in_order(book), shuffle):
                owner = place[:2] if content[0] in ("key", "big") else None
                word = "thing " + book[1][content[1]][0] if content[0] == "thing" else content[0]
                most[word, owner] = most.get((word, owner), 0) + 1
        most.pop(("straw", None), None)
        laid = {}
        lines = text.split("\n")
        for k, line in enumerate(lines):
            shown = " ".join([word for word in line.split(" ") if word])
            if shown:
                if shown not in known or known[shown][1] in laid:
                    return k
                word, place = known[shown]
                kind = (word, place[:2] if word in ("key", "big") else None)
                most[kind] = most.get(kind, 0) - 1
                if most[kind] < 0 or kind[1] is not None and place[2] == -1:
                    return k
                laid[place] = ("thing", words.index(word) - 2) if kind[1] is None else (word,)
        if any(most.values()):
            return len(lines)
        return tuple([laid.get(place, ("straw",)) for place in support.places_in_order(book)])

    def test_spoilt_texts(self):
        rng = random.Random(15)
        words = ["key", "big", "thing", "straw", "hook", "coin", "0", "1", "2", "00", "-1", "n", "c", "k", "s", "y",
                 "north", "camp", "keep", "w",
                 "home", "one", "p", "q", "bell", "9" * 9, "a", "x"]
        bad = 0
        for book in support.SMALL_BOOKS[1:6]:
            shuffles = support.all_shuffles(book)
            for _ in range(600):
                lines = show_shuffle(book, rng.choice(shuffles)).split("\n")
                rng.shuffle(lines)
                text = spoilt(rng, "\n".join(lines), words)
                right = self.read_again(book, text)
                if type(right) is int:
                    bad += 1
                    self.assertEqual(self.line_of(read_shuffle, book, text), right, text)
                else:
                    self.assertEqual(read_shuffle(book, text), right, text)
        self.assertGreater(bad, 500)

    def test_what_is_no_string(self):
        self.check_wrong(1, read_shuffle, self.BOOK)
        self.check_wrong(1, read_shuffle, support.SMALL_BOOKS[-1])


class Deeds(WithErrors):

    def deeds_of(self, book):
        return ([("open", place) for place in support.places_in_order(book)]
                + [("unlock", hall) for hall in support.halls_in_order(book)]
                + [("leave", w) for w in range(len(book[0]))])

    def test_what_is_shown_is_read(self):
        rng = random.Random(16)
        for book in [BOOK, *support.SMALL_BOOKS, *support.some_books(30, 17)]:
            for deed in self.deeds_of(book):
                self.assertEqual(repr(self.answer(read_deed, book, show_deed(book, deed))), repr(deed))
                self.assertEqual(read_deed(book, loosened(rng, show_deed(book, deed))), deed)

    def test_lines_that_are_none(self):
        for text in ("", " ", "open", "open north", "open north camp", "open north camp 1", "open north camp 00",
                     "open north camp -1",
                     "open north camp 0 0", "open north cave 0", "open north cave 0 2", "open north cave 4 0",
                     "open north cave 0 0 0",
                     "open north den 0 0", "open north home 0", "open west camp 0", "open south cave 0 0",
                     "open  camp 0", "Open north camp 0",
                     "unlock", "unlock north", "unlock north cave", "unlock north cave 4", "unlock north cave 00",
                     "unlock north cave -1",
                     "unlock north cave 0 0", "unlock north camp 0", "unlock north den 1", "unlock south camp 0",
                     "unlock north home 0",
                     "unlock west cave 0", "unlock north cave 1234567890", "leave", "leave west", "leave 0",
                     "leave north south", "leave North",
                     "leave north 0", "shut north camp 0", "north camp 0", "hook", "key north cave 0 0", "open hook",
                     "unlock open"):
            self.assertEqual(self.line_of(read_deed, BOOK, text), 0, text)

    def test_line_feeds(self):
        for text in ("open north camp 0\n", "\nopen north camp 0", "open north\ncamp 0", "leave north\n\n", "\n",
                     "leave north\nleave north"):
            self.assertEqual(self.line_of(read_deed, BOOK, text), 0, text)
        self.assertEqual(read_deed(BOOK, "  open north  camp 0 "), ("open", (0, 0, -1, 0)))

    def test_spoilt_lines(self):
        rng = random.Random(18)
        words = ["open", "unlock", "leave", "north", "south", "east", "camp", "cave", "den", "yard", "0", "1", "2",
                 "3", "9", "10", "00", "-1"]
        lines = {show_deed(BOOK, deed): deed for deed in self.deeds_of(BOOK)}
        for _ in range(3000):
            text = spoilt(rng, rng.choice(sorted(lines)), words)
            shown = " ".join([word for word in text.split(" ") if word])
            if "\n" not in text and shown in lines:
                self.assertEqual(read_deed(BOOK, text), lines[shown])
            else:
                self.assertEqual(self.line_of(read_deed, BOOK, text), 0, text)

    def test_what_is_no_string(self):
        self.check_wrong(1, read_deed, BOOK)


class TheText(unittest.TestCase):

    def test_it_is_the_book(self):
        self.assertEqual([read_book(TEXT), read_again(TEXT)], [BOOK, BOOK])


if __name__ == "__main__":
    unittest.main()
