"""Bridges: by numbers alone, how places in a full row lead to places in its row and its children's."""

from bridgefind.stands import full_rows
from bridgefind.trees import children


def owns_of(full, knot):
    told = [0]
    for entry in full:
        told.append(told[-1] + 1 if entry[1] == knot else told[-1])
    return told


def starts_of(full, child_full):
    behind = {}
    for at, entry in enumerate(child_full):
        behind[entry] = at + 1
    told = [0]
    for entry in full:
        # of the child's entries a full row has just those that were handed on
        told.append(behind.get(entry, told[-1]))
    return told


# Whoever has the full rows already draws from here, so that they aren't laid twice.
def bridges_of(tree, fulls):
    told = []
    for knot, full in enumerate(fulls):
        jumps = [(child, starts_of(full, fulls[child])) for child in children(tree, knot)]
        told.append((len(full), owns_of(full, knot), jumps))
    return told


def bridges(stand):
    return bridges_of(stand[0], full_rows(stand))
