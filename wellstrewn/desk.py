"""A desk, which leads a house by lines."""

from wellstrewn.errors import NoCommand, NoName, Wrong
from wellstrewn.forms import is_name
from wellstrewn.house import MOST_DIGITS, House
from wellstrewn.numbering import good_shuffles, nth_shuffle
from wellstrewn.places import STRAW
from wellstrewn.plays import is_whole
from wellstrewn.reader import content_from, integer_from, place_from, words_of
from wellstrewn.shower import show_book, show_content, show_deed, show_place, show_shuffle

DONE = "done"


def need(is_so):
    """Refuses a line if something is not so that has to be."""
    if not is_so:
        raise NoCommand()


def number_in(word):
    """The integer that a word of a line shows."""
    n = integer_from(word, MOST_DIGITS)
    need(n is not None)
    return n


def name_alone(words):
    """The NAME that stands alone in words."""
    need(len(words) == 1 and is_name(words[0]))
    return words[0]


def text_from(words):
    """The text that words show, each `|` ending a line."""
    lines = [[]]
    for word in words:
        if word == "|":
            lines.append([])
        else:
            lines[-1].append(word)
    return "\n".join([" ".join(line) for line in lines])


def book_named(desk, name):
    """The BOOK of a NAME."""
    shelf = desk.home.books()
    if name not in shelf:
        raise NoName(name)
    return shelf[name]


def answer_book(desk, words):
    """Keeps a BOOK."""
    need(words != [] and is_name(words[0]))
    desk.home.put_book(words[0], text_from(words[1:]))
    return [DONE]


def answer_race(desk, words):
    """Begins a RACE."""
    need(len(words) == 3 and is_name(words[0]) and is_name(words[1]))
    desk.home.put_race(words[0], words[1], number_in(words[2]))
    return [DONE]


def answer_do(desk, words):
    """Does a DEED in a RACE."""
    need(len(words) >= 3 and is_name(words[0]))
    desk.home.do(words[0], number_in(words[1]), " ".join(words[2:]))
    return [DONE]


def answer_cut(desk, words):
    """Goes back to what the first signs of the text tell."""
    need(len(words) == 1)
    desk.home = House(desk.home.text()[:number_in(words[0])])
    return [DONE]


def answer_log(desk, words):
    """The LINES of the RECORDS."""
    need(words == [])
    return desk.home.text().split("\n")[:-1]


def answer_books(desk, words):
    """The NAMES of the BOOKS."""
    need(words == [])
    return list(desk.home.books())


def answer_races(desk, words):
    """The NAMES of the RACES."""
    need(words == [])
    return list(desk.home.races())


def answer_show(desk, words):
    """The lines of a BOOK."""
    return show_book(book_named(desk, name_alone(words))).split("\n")


def answer_many(desk, words):
    """How many GOOD SHUFFLES a BOOK has."""
    return [str(good_shuffles(book_named(desk, name_alone(words))))]


def answer_nth(desk, words):
    """The lines of the GOOD SHUFFLE of a BOOK with a NUMBER."""
    need(len(words) == 2 and is_name(words[0]))
    n = number_in(words[1])
    book = book_named(desk, words[0])
    shown = show_shuffle(book, nth_shuffle(book, n))
    return shown.split("\n") if shown != "" else []


def answer_left(desk, words):
    """The DEEDS that may be done in a RACE."""
    name = name_alone(words)
    book, _, _ = desk.home.run_of(name)
    return [show_deed(book, deed) for deed in desk.home.left(name)]


def answer_seen(desk, words):
    """What is known of the PLACES of a RACE."""
    name = name_alone(words)
    book, _, _ = desk.home.run_of(name)
    seen, _ = desk.home.known(name)
    return [f"{show_content(book, content)} at {show_place(book, place)}" for place, content in seen]


def answer_fits(desk, words):
    """How many GOOD SHUFFLES fit what is known of a RACE."""
    return [str(desk.home.many_left(name_alone(words)))]


def answer_state(desk, words):
    """Whether the STATE of a RACE is WHOLE."""
    book, shuffle, state = desk.home.run_of(name_alone(words))
    return ["whole" if is_whole(book, shuffle, state) else "open"]


def could_be_content(words):
    """Whether words could show a CONTENT of some BOOK."""
    if len(words) == 2:
        return words[0] == "thing" and is_name(words[1])
    return words in (["straw"], ["key"], ["big"])


def could_be_place(words):
    """Whether words could show a PLACE of some BOOK."""
    if len(words) not in (3, 4) or not all([is_name(word) for word in words[:2]]):
        return False
    return all([integer_from(word, MOST_DIGITS) is not None for word in words[2:]])


def answer_chance(desk, words):
    """The FRACTION of what fits in which a PLACE of a RACE has a CONTENT."""
    k = 3 if words[1:2] == ["thing"] else 2
    content_words, place_words = words[1:k], words[k + 1:]
    need(len(words) > k and is_name(words[0]) and words[k] == "at")
    need(could_be_content(content_words) and could_be_place(place_words))
    book, _, _ = desk.home.run_of(words[0])
    content = STRAW if content_words == ["straw"] else content_from(book, content_words)
    place = place_from(book, place_words)
    need(content is not None and place is not None)
    n, d = desk.home.chance(words[0], place, content)
    return [f"{n}/{d}"]


COMMANDS = {
    "book": answer_book,
    "race": answer_race,
    "do": answer_do,
    "cut": answer_cut,
    "log": answer_log,
    "books": answer_books,
    "races": answer_races,
    "show": answer_show,
    "many": answer_many,
    "nth": answer_nth,
    "left": answer_left,
    "seen": answer_seen,
    "fits": answer_fits,
    "chance": answer_chance,
    "state": answer_state,
}


class Desk:
    """A house that is led by lines."""

    def __init__(self, text):
        if not isinstance(text, str):
            raise Wrong(0)
        self.home = House(text)

    def __eq__(self, other):
        """Whether another value is a desk whose house is equal."""
        return isinstance(other, Desk) and self.home == other.home

    def house(self):
        """A twin of the house."""
        return self.home.twin()

    def twin(self):
        """An independent desk in the same state."""
        other = Desk("")
        other.home = self.house()
        return other

    def execute(self, line):
        """Does what a line says, and tells the list of lines that answer it."""
        if not isinstance(line, str):
            raise Wrong(0)
        words = words_of(line)
        if "\n" in line or words == [] or words[0] not in COMMANDS:
            raise NoCommand()
        answer = COMMANDS[words[0]]
        return answer(self, words[1:])
