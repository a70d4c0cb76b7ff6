"""Shelves: keys are put in and taken out, and the full rows stay those that would be laid anew."""

from bridgefind.entries import joined_up, need_key, place
from bridgefind.errors import Missing, NoRoom, Twice
from bridgefind.marks import handed
from bridgefind.search import search_for_key
from bridgefind.stands import MOST_KEYS, full_rows, long_together, with_row
from bridgefind.trees import MOST_KNOTS, need_knot, need_way


def without(entries, others):
    away = {}
    for entry in others:
        away[entry] = True
    return [entry for entry in entries if entry not in away]


class Shelf:
    def __init__(self, stand):
        self.kept = stand
        self.fulls = full_rows(stand)

    def row_for(self, knot, key):
        need_knot(self.kept[0], knot)
        need_key(key)
        return self.kept[1][knot]

    # A parent's full row has of what comes from beneath a child just what the child hands on, so it changes
    # by what is handed on no more and what is handed on now; where that is nothing, nothing above changes.
    def carry_up(self, knot, gone, come):
        told = []
        while knot is not None and len(gone) + len(come) > 0:
            told.append((knot, gone, come))
            before = handed(self.fulls[knot])
            self.fulls[knot] = joined_up([without(self.fulls[knot], gone), come])
            after = handed(self.fulls[knot])
            gone = without(before, after)
            come = without(after, before)
            knot = self.kept[0][knot]
        return told

    def put(self, knot, key):
        row = self.row_for(knot, key)
        if key in row:
            raise Twice("the row has this key")
        if long_together(self.kept[1]) >= MOST_KEYS:
            raise NoRoom("a stand has at most 300 keys")
        at = place(row, key)
        self.kept = with_row(self.kept, knot, row[:at] + (key,) + row[at:])
        return self.carry_up(knot, [], [(key, knot)])

    def out(self, knot, key):
        row = self.row_for(knot, key)
        if key not in row:
            raise Missing("the row has no such key")
        at = place(row, key)
        self.kept = with_row(self.kept, knot, row[:at] + row[at + 1:])
        return self.carry_up(knot, [(key, knot)], [])

    def hang(self, parent):
        tree = self.kept[0]
        need_knot(tree, parent)
        if len(tree) >= MOST_KNOTS:
            raise NoRoom("a tree has at most 40 knots")
        self.kept = (tree + (parent,), self.kept[1] + ((),))
        self.fulls.append([])
        return len(tree)

    def stand(self):
        return self.kept

    def full(self, knot):
        need_knot(self.kept[0], knot)
        # the shelf's own list stays with it
        return list(self.fulls[knot])

    def find(self, way, key):
        need_way(self.kept[0], way)
        return search_for_key(self.kept[0], self.fulls, way, key)
