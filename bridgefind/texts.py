"""Texts: a stand written down, a line for each knot, and read again."""

from bridgefind.entries import is_key
from bridgefind.errors import NoText
from bridgefind.stands import MOST_KEYS, long_together, stand_of
from bridgefind.trees import MOST_KNOTS, is_one_of_first, tree_of


def line_of(parent, row):
    head = "root" if parent is None else f"under {parent}"
    return " ".join([head] + [str(key) for key in row])


def show_stand(stand):
    return "\n".join([line_of(parent, row) for parent, row in zip(stand[0], stand[1])])


# Of the many ways to write a number just the one that would be told is right; what is none is None.
def number_in(word):
    try:
        number = int(word)
    except ValueError:
        return None
    return number if str(number) == word else None


def is_head(knot, words):
    if knot == 0:
        return words == ["root"]
    return len(words) == 2 and words[0] == "under" and is_one_of_first(knot, number_in(words[1]))


def rises(things):
    # what is no number stands here as None, and is not to be compared
    if not all([is_key(thing) for thing in things]):
        return False
    return all([one < other for one, other in zip(things, things[1:])])


def read_stand(text):
    if not isinstance(text, str):
        raise NoText(0)
    parents = []
    rows = []
    for knot, line in enumerate(text.split("\n")):
        words = line.split(" ")
        heads = 1 if knot == 0 else 2
        row = [number_in(word) for word in words[heads:]]
        if knot >= MOST_KNOTS or not is_head(knot, words[:heads]) or not rises(row):
            raise NoText(knot)
        if long_together(rows) + len(row) > MOST_KEYS:
            raise NoText(knot)
        parents.append(None if knot == 0 else number_in(words[1]))
        rows.append(row)
    return stand_of(tree_of(parents), rows)
