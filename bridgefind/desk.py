"""A desk: it keeps a shelf, is told rows of words and answers each with a text."""

from bridgefind.asks import above, below, stretch, who_has
from bridgefind.entries import need_key
from bridgefind.errors import NoRow
from bridgefind.shelf import Shelf
from bridgefind.stands import long_together, weight
from bridgefind.texts import number_in, read_stand, show_stand
from bridgefind.trees import need_knot


def spaced(things):
    return " ".join([str(thing) for thing in things])


def spaced_or_none(things):
    return spaced(things) if len(things) > 0 else "none"


def entry_text(entry):
    key = entry[0]
    knot = entry[1]
    return f"{key}:{knot}"


def entry_or_none(entry):
    return "none" if entry is None else entry_text(entry)


def deed_text(deed):
    return spaced([long_together([each[1] for each in deed]), long_together([each[2] for each in deed])])


def keys_text(keys):
    return ",".join([str(key) for key in keys]) if len(keys) > 0 else "-"


def answer_show(shelf, things):
    return show_stand(shelf.stand())


def answer_put(shelf, things):
    return deed_text(shelf.put(things[0], things[1]))


def answer_out(shelf, things):
    return deed_text(shelf.out(things[0], things[1]))


def answer_hang(shelf, things):
    return str(shelf.hang(things[0]))


def answer_full(shelf, things):
    return spaced_or_none([entry_text(entry) for entry in shelf.full(things[0])])


def answer_find(shelf, things):
    return spaced([each[1] for each in shelf.find(things[1], things[0])])


def answer_has(shelf, things):
    return spaced_or_none(who_has(shelf.stand(), things[1], things[0]))


def answer_above(shelf, things):
    return entry_or_none(above(shelf.stand(), things[1], things[0]))


def answer_below(shelf, things):
    return entry_or_none(below(shelf.stand(), things[1], things[0]))


def answer_between(shelf, things):
    return spaced([keys_text(keys) for keys in stretch(shelf.stand(), things[2], things[0], things[1])])


def answer_weight(shelf, things):
    return spaced(weight(shelf.stand()))


# By its first word: which words stand behind it, H a knot, K a key, W a way of all that are left; and what answers.
ROWS = {
    "show": ("", answer_show),
    "put": ("HK", answer_put),
    "out": ("HK", answer_out),
    "hang": ("H", answer_hang),
    "full": ("H", answer_full),
    "find": ("KW", answer_find),
    "has": ("KW", answer_has),
    "above": ("KW", answer_above),
    "below": ("KW", answer_below),
    "between": ("KKW", answer_between),
    "weight": ("", answer_weight),
}


def is_row(thing):
    if not isinstance(thing, str):
        return False
    words = thing.split(" ")
    if words[0] not in ROWS:
        return False
    kinds = ROWS[words[0]][0]
    many = len(words) - 1
    return many == len(kinds) or (kinds.endswith("W") and many > len(kinds))


def knot_in(tree, word):
    number = number_in(word)
    need_knot(tree, number)
    return number


def key_in(word):
    number = number_in(word)
    need_key(number)
    return number


# From the left, so that of several words that are wrong the first is refused.
def things_in(tree, kinds, words):
    told = []
    for at, kind in enumerate(kinds):
        if kind == "H":
            told.append(knot_in(tree, words[at]))
        elif kind == "K":
            told.append(key_in(words[at]))
        else:
            # knots that are no way are refused where they are asked of
            told.append([knot_in(tree, word) for word in words[at:]])
    return told


class Desk:
    def __init__(self, text):
        self.shelf = Shelf(read_stand(text))

    def say(self, row):
        if not is_row(row):
            raise NoRow("a row is one of those that a desk knows, with as many words as it has")
        words = row.split(" ")
        form = ROWS[words[0]]
        tree = self.shelf.stand()[0]
        return form[1](self.shelf, things_in(tree, form[0], words[1:]))
