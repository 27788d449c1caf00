"""The GOOD SHUFFLES of a BOOK, numbered by their TELLINGS."""

from wellstrewn.errors import NotGood
from wellstrewn.fitting import Fitting, no_hints, nth_fitting
from wellstrewn.goodness import is_good
from wellstrewn.places import telling_of


def good_shuffles(book):
    """How many GOOD SHUFFLES a BOOK has."""
    return Fitting(book, {}, no_hints(book)).many


def nth_shuffle(book, n):
    """The GOOD SHUFFLE with the NUMBER n."""
    return nth_fitting(book, {}, no_hints(book), n)


def next_good(book, telling):
    """How many GOOD SHUFFLES have a TELLING less than that of any SHUFFLE, GOOD or not."""
    return Fitting(book, {}, no_hints(book)).many_below(telling)


def number_of(book, shuffle):
    """The NUMBER of a GOOD SHUFFLE."""
    if not is_good(book, shuffle):
        raise NotGood()
    return next_good(book, telling_of(book, shuffle))
