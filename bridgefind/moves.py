"""Moves: rows exchanged, keys raised or turned about, knots named anew."""

from bridgefind.entries import need_key
from bridgefind.errors import NoOrder
from bridgefind.stands import with_row
from bridgefind.trees import is_one_of_first


def exchanged(stand, one, other):
    rows = stand[1]
    return with_row(with_row(stand, one, rows[other]), other, rows[one])


def raised_row(row, by):
    told = tuple([key + by for key in row])
    for key in told:
        need_key(key)
    return told


def raised(stand, by):
    return (stand[0], tuple([raised_row(row, by) for row in stand[1]]))


# The greatest key becomes the least, so the row is turned round to rise again.
def row_about(row):
    return tuple([-key for key in reversed(row)])


def turned_about(stand):
    return (stand[0], tuple([row_about(row) for row in stand[1]]))


# Things of whatever kind may stand in an order, so kinds are looked at ahead of any comparison.
def is_order(tree, thing):
    if not isinstance(thing, list) or len(thing) != len(tree):
        return False
    if not all([is_one_of_first(len(tree), knot) for knot in thing]):
        return False
    if thing[0] != 0 or len(set(thing)) < len(thing):
        return False
    return all([thing[tree[knot]] < thing[knot] for knot in range(1, len(tree))])


def named(stand, order):
    tree = stand[0]
    if not is_order(tree, order):
        raise NoOrder("an order is a list of each knot once, the first 0, with each parent lesser")
    formers = [order.index(knot) for knot in range(len(tree))]
    parents = [None] + named_way([tree[knot] for knot in formers[1:]], order)
    return (tuple(parents), tuple([stand[1][knot] for knot in formers]))


def named_way(way, order):
    return [order[knot] for knot in way]
