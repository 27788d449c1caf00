"""Numbers and GOOD SHUFFLES drawn by fair coins, all of them alike likely."""

from wellstrewn.errors import NoNumber
from wellstrewn.numbering import good_shuffles, nth_shuffle


def coins_for(many):
    """The least k for which 2 ** k is at least many."""
    return (many - 1).bit_length()


def number_shown(coins):
    """The number whose binary digits are coins, the first one counting most."""
    number = 0
    for coin in coins:
        number = 2 * number + (1 if coin else 0)
    return number


def drawn(many, coins):
    """The number below many that is drawn, and how many coins are used; None if they run out."""
    k = coins_for(many)
    used = k
    while used <= len(coins):
        number = number_shown(coins[used - k:used])
        if number < many:
            return (number, used)
        used += k
    return None


def drawn_shuffle(book, coins):
    """The GOOD SHUFFLE that is drawn, and how many coins are used; None if they run out."""
    many = good_shuffles(book)
    if many == 0:
        raise NoNumber(0)
    found = drawn(many, coins)
    if found is None:
        return None
    number, used = found
    return (nth_shuffle(book, number), used)


def rows_of_coins(many, length):
    """For each number below many, in how many rows of so many coins it is drawn."""
    k = coins_for(many)
    used = k
    rows = 0
    # So many beginnings of a row, k coins each time, draw no number.
    failed = 1
    while failed > 0 and used <= length:
        rows += failed << (length - used)
        failed = failed * ((1 << k) - many)
        used += k
    return (rows,) * many
