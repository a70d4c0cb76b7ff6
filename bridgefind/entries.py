"""Keys, entries and their codes; places in rows and in lists of entries; lists joined."""

from bridgefind.errors import NoKey

# knots are numbered from 0 to 63: with this many codes for each key no two entries share one
KNOT_NUMBERS = 64


def is_whole(thing):
    # to isinstance a truth is an int too, but it is no whole number
    return isinstance(thing, int) and not isinstance(thing, bool)


def is_key(thing):
    return is_whole(thing) and abs(thing) < 10 ** 60


def need_key(thing):
    if not is_key(thing):
        raise NoKey("a key is a whole number of at most sixty figures")


def code(entry):
    key = entry[0]
    # keys from 0 on take the even numbers and those below 0 the odd ones, so that none is below 0
    z = 2 * key if key >= 0 else -2 * key - 1
    return KNOT_NUMBERS * z + entry[1]


# The things are known by their numbers alone, so that one search serves rows and entries alike;
# it asks of no number twice, and no more often than length has binary figures.
def how_many_below(length, is_below):
    low = 0
    high = length
    while low < high:
        middle = (low + high) // 2
        if is_below(middle):
            low = middle + 1
        else:
            high = middle
    return low


def place(row, key):
    return how_many_below(len(row), lambda at: row[at] < key)


def place_in(entries, key):
    return how_many_below(len(entries), lambda at: entries[at][0] < key)


def joined_up(lists):
    together = []
    for entries in lists:
        together.extend(entries)
    return sorted(together)
