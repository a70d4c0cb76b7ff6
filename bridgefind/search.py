"""Searches: once through a first full row, then over the bridges, with two looks at most for each next place."""

from bridgefind.bridges import bridges_of
from bridgefind.entries import how_many_below

# between two entries that are handed on lie one or two, so from a start on two at most are below the key
MOST_BEHIND_START = 2


def first_place(bridges, knot, is_below):
    return how_many_below(bridges[knot][0], lambda at: is_below(knot, at))


def start_in(bridges, knot, at, child):
    return dict(bridges[knot][2])[child][at]


def next_place(bridges, knot, start, is_below):
    beyond = min(start + MOST_BEHIND_START, bridges[knot][0])
    at = start
    while at < beyond and is_below(knot, at):
        at = at + 1
    return at


def search(bridges, way, is_below):
    at = first_place(bridges, way[0], is_below)
    told = [(at, bridges[way[0]][1][at])]
    for parent, knot in zip(way, way[1:]):
        at = next_place(bridges, knot, start_in(bridges, parent, at, knot), is_below)
        told.append((at, bridges[knot][1][at]))
    return told


# No key stands in the bridges, so the full rows are asked.
def search_for_key(tree, fulls, way, key):
    return search(bridges_of(tree, fulls), way, lambda knot, at: fulls[knot][at][0] < key)


def search_beneath(bridges, knot, is_below):
    places = {knot: first_place(bridges, knot, is_below)}
    told = []
    # a child's number is greater than its parent's, so whatever lies beneath has its place by its turn
    for each in range(knot, len(bridges)):
        if each in places:
            at = places[each]
            told.append((each, at, bridges[each][1][at]))
            for jump in bridges[each][2]:
                places[jump[0]] = next_place(bridges, jump[0], jump[1][at], is_below)
    return told
