"""A house, which keeps BOOKS and RACES by NAMES, and a journal of all that changed it."""

from wellstrewn.errors import NoDeed, NoName, StrewError, Twice, Wrong
from wellstrewn.forms import is_count, is_name
from wellstrewn.journal import journal_of, opened
from wellstrewn.knowledge import seen_in
from wellstrewn.numbering import nth_shuffle
from wellstrewn.plays import deeds_of, done, may_do, start_state
from wellstrewn.reader import integer_from, read_book, read_deed
from wellstrewn.shower import show_book, show_deed
from wellstrewn.trackers import how_many, share_of

MOST_DIGITS = 40


def take_book(house, words):
    """Does what stands behind `book` in a RECORD, and tells whether it has the form of one."""
    name, blank, text = words.partition(" ")
    if blank == "":
        return False
    house.put_book(name, text.replace("|", "\n"))
    return True


def take_race(house, words):
    """Does what stands behind `race` in a RECORD, and tells whether it has the form of one."""
    parts = words.split(" ")
    n = integer_from(parts[-1], MOST_DIGITS)
    if len(parts) != 3 or n is None:
        return False
    house.put_race(parts[0], parts[1], n)
    return True


def take_deed(house, words):
    """Does what stands behind `deed` in a RECORD, and tells whether it has the form of one."""
    name, _, rest = words.partition(" ")
    shown, blank, shown_deed = rest.partition(" ")
    tick = integer_from(shown, MOST_DIGITS)
    if tick is None or blank == "":
        return False
    house.do(name, tick, shown_deed)
    return True


RECORDS = {"book": take_book, "race": take_race, "deed": take_deed}


def take_record(house, record):
    """Does what a RECORD tells, and tells whether it is one that a house could have written."""
    word, _, words = record.partition(" ")
    if word not in RECORDS:
        return False
    taker = RECORDS[word]
    try:
        return taker(house, words)
    except StrewError:
        return False


class House:
    """BOOKS and RACES by NAMES; a RACE is kept as (NAME of its BOOK, NUMBER, LOG, SHUFFLE, STATE behind the LOG)."""

    def __init__(self, text):
        if not isinstance(text, str):
            raise Wrong(0)
        self.records = []
        self.shelf = {}
        self.courses = {}
        for record in opened(text):
            if not take_record(self, record):
                break
            # It stays as it stood there, perhaps with more blanks than were written.
            self.records[-1] = record

    def __eq__(self, other):
        """Whether another value is a house with an equal text."""
        return isinstance(other, House) and self.text() == other.text()

    def put_book(self, name, text):
        """Keeps the BOOK that a text shows."""
        if not is_name(name):
            raise Wrong(0)
        if not isinstance(text, str):
            raise Wrong(1)
        if name in self.shelf:
            raise Twice(name)
        book = read_book(text)
        self.shelf[name] = book
        shown = show_book(book).replace("\n", "|")
        self.records.append(f"book {name} {shown}")

    def put_race(self, name, book, n):
        """Begins a RACE of the GOOD SHUFFLE with the NUMBER n of a BOOK."""
        if not is_name(name):
            raise Wrong(0)
        if not is_name(book):
            raise Wrong(1)
        if not is_count(n):
            raise Wrong(2)
        if name in self.courses:
            raise Twice(name)
        if book not in self.shelf:
            raise NoName(book)
        self.courses[name] = (book, n, (), nth_shuffle(self.shelf[book], n), start_state())
        self.records.append(f"race {name} {book} {n}")

    def do(self, name, tick, words):
        """Does the DEED that words show in a RACE at a tick."""
        if not is_name(name):
            raise Wrong(0)
        if not is_count(tick):
            raise Wrong(1)
        if not isinstance(words, str):
            raise Wrong(2)
        title, n, log, shuffle, state = self.course(name)
        book = self.shelf[title]
        deed = read_deed(book, words)
        if (log != () and tick < log[-1][0]) or not may_do(book, shuffle, state, deed):
            raise NoDeed(len(log))
        self.courses[name] = (title, n, (*log, (tick, deed)), shuffle, done(book, shuffle, state, deed))
        self.records.append(f"deed {name} {tick} {show_deed(book, deed)}")

    def text(self):
        """The JOURNAL of all RECORDS."""
        return journal_of(self.records)

    def books(self):
        """The dict from NAMES to BOOKS."""
        return {name: self.shelf[name] for name in sorted(self.shelf)}

    def races(self):
        """The dict from NAMES to RACES."""
        return {name: self.courses[name][:3] for name in sorted(self.courses)}

    def twin(self):
        """An independent house in the same state."""
        other = House("")
        other.records = list(self.records)
        other.shelf = dict(self.shelf)
        other.courses = dict(self.courses)
        return other

    def course(self, name):
        """What is kept of a RACE."""
        if name not in self.courses:
            raise NoName(name)
        return self.courses[name]

    def run_of(self, name):
        """The BOOK, the SHUFFLE and the STATE of a RACE."""
        title, _, _, shuffle, state = self.course(name)
        return (self.shelf[title], shuffle, state)

    def shuffle(self, name):
        """The SHUFFLE of a RACE."""
        return self.course(name)[3]

    def state(self, name):
        """The STATE behind the LOG of a RACE."""
        return self.course(name)[4]

    def left(self, name):
        """The tuple of the DEEDS but those with "leave" that may be done in a RACE."""
        book, shuffle, state = self.run_of(name)
        return deeds_of(book, shuffle, state)

    def known(self, name):
        """The KNOWLEDGE that the STATE of a RACE shows."""
        book, shuffle, state = self.run_of(name)
        return seen_in(book, shuffle, state)

    def chance(self, name, place, content):
        """The FRACTION of the GOOD SHUFFLES that FIT what is known of a RACE in which a PLACE has a CONTENT."""
        book, _, _ = self.run_of(name)
        return share_of(book, self.known(name), place, content)

    def many_left(self, name):
        """How many GOOD SHUFFLES FIT what is known of a RACE."""
        book, _, _ = self.run_of(name)
        return how_many(book, self.known(name))
