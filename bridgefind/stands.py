"""Stands: a tree with a row at each knot; their full rows and their weight."""

from bridgefind.entries import is_key, joined_up
from bridgefind.errors import NoStand
from bridgefind.marks import handed
from bridgefind.trees import beneath, children

MOST_KEYS = 300


def row_of(things):
    if not isinstance(things, (list, tuple)):
        raise NoStand("a row is made of a list or tuple")
    # things of whatever kind may stand here, and only keys can be put in order
    for thing in things:
        if not is_key(thing):
            raise NoStand("a row has keys alone")
    if len(set(things)) < len(things):
        raise NoStand("a row has each key once")
    return tuple(sorted(things))


def long_together(lists):
    return sum([len(each) for each in lists])


def stand_of(tree, rows):
    if not isinstance(rows, (list, tuple)):
        raise NoStand("rows stand in a list or tuple")
    if len(rows) != len(tree):
        raise NoStand("there is a row for each knot")
    told = tuple([row_of(row) for row in rows])
    if long_together(told) > MOST_KEYS:
        raise NoStand("a stand has at most 300 keys")
    return (tree, told)


def with_row(stand, knot, row):
    rows = stand[1]
    return (stand[0], rows[:knot] + (row,) + rows[knot + 1:])


def own_entries(stand, knot):
    return [(key, knot) for key in stand[1][knot]]


# The full rows of the knots beneath one, by knot: what lies elsewhere has no part in them.
def full_rows_beneath(stand, knot):
    tree = stand[0]
    told = {}
    # a child's number is greater than its parent's, so from the last on its full row is there in time
    for at in reversed(beneath(tree, knot)):
        parts = [handed(told[child]) for child in children(tree, at)]
        parts.append(own_entries(stand, at))
        told[at] = joined_up(parts)
    return told


def full_row(stand, knot):
    return full_rows_beneath(stand, knot)[knot]


def full_rows(stand):
    told = full_rows_beneath(stand, 0)
    return [told[knot] for knot in range(len(stand[0]))]


def weight(stand):
    return weight_beneath(stand, 0)


def weight_beneath(stand, knot):
    fulls = full_rows_beneath(stand, knot)
    return (long_together([stand[1][at] for at in fulls]), long_together([fulls[at] for at in fulls]))
