"""Asks: what the rows along a way tell of a key."""

from bridgefind.entries import joined_up, place, place_in
from bridgefind.stands import own_entries
from bridgefind.trees import need_way


def rows_on(stand, way):
    need_way(stand[0], way)
    return [stand[1][knot] for knot in way]


def entries_on(stand, way):
    need_way(stand[0], way)
    return joined_up([own_entries(stand, knot) for knot in way])


def places(stand, way, key):
    return [place(row, key) for row in rows_on(stand, way)]


def who_has(stand, way, key):
    rows = rows_on(stand, way)
    return [knot for knot, row in zip(way, rows) if key in row]


def first_with(stand, way, key):
    knots = who_has(stand, way, key)
    return knots[0] if len(knots) > 0 else None


def keys_between(row, low, high):
    return list(row[place(row, low):place(row, high)])


def stretch(stand, way, low, high):
    return [keys_between(row, low, high) for row in rows_on(stand, way)]


def above(stand, way, key):
    entries = entries_on(stand, way)
    at = place_in(entries, key)
    return entries[at] if at < len(entries) else None


def below(stand, way, key):
    entries = entries_on(stand, way)
    at = place_in(entries, key)
    return entries[at - 1] if at > 0 else None


def joined_from(stand, way, key, many):
    entries = entries_on(stand, way)
    at = place_in(entries, key)
    # a sum below 0 would count from the end
    return entries[at:at + max(many, 0)]
