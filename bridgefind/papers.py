"""Papers: the places of a key along a way, written down, and whether what is written is true."""

from bridgefind.bridges import bridges_of
from bridgefind.entries import is_whole
from bridgefind.search import MOST_BEHIND_START, search_for_key, start_in
from bridgefind.stands import full_rows
from bridgefind.trees import need_way


def paper_of(stand, way, key):
    need_way(stand[0], way)
    found = search_for_key(stand[0], full_rows(stand), way, key)
    return [(knot, each[0], each[1]) for knot, each in zip(way, found)]


# Things of whatever kind may stand in a paper, so kinds are looked at ahead of any comparison.
def is_line(thing):
    if not isinstance(thing, tuple) or len(thing) != 3:
        return False
    return all([is_whole(part) for part in thing])


def is_place_in(full, at, key):
    if not 0 <= at <= len(full):
        return False
    if at > 0 and full[at - 1][0] >= key:
        return False
    return at == len(full) or full[at][0] >= key


# Places that are right are never farther off; it is asked all the same, as a part of what a paper must be.
def is_near_start(bridges, line, below):
    start = start_in(bridges, line[0], line[1], below[0])
    return start <= below[1] <= start + MOST_BEHIND_START


# A paper is held against the entries beside its places and the bridges, and no search is made for it.
def lets_by(stand, way, key, paper):
    need_way(stand[0], way)
    if not isinstance(paper, list) or not all([is_line(thing) for thing in paper]):
        return False
    if [line[0] for line in paper] != way:
        return False
    fulls = full_rows(stand)
    bridges = bridges_of(stand[0], fulls)
    for line in paper:
        if not is_place_in(fulls[line[0]], line[1], key) or line[2] != bridges[line[0]][1][line[1]]:
            return False
    return all([is_near_start(bridges, line, below) for line, below in zip(paper, paper[1:])])
