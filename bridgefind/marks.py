"""Colours, which entries are handed on, and the near ones on which that hangs."""

from bridgefind.labels import labels

# so far the turns, the colours and the marks together look: five turns ahead, three and two either way
NEAR_AHEAD = 10
NEAR_BEHIND = 5


def neighbours(things, at):
    return things[max(at - 1, 0):at] + things[at + 1:at + 2]


def least_free(taken):
    # two neighbours at most are taken, so one of the three is left
    return min([colour for colour in (0, 1, 2) if colour not in taken])


def colours(numbers):
    told = list(numbers)
    for label in (3, 4, 5):
        for at in range(len(numbers)):
            if told[at] == label:
                told[at] = least_free(neighbours(told, at))
    return told


def marks(entries):
    tints = colours(labels(entries))
    told = [False for tint in tints]
    for colour in (2, 1, 0):
        for at in range(1, len(tints)):
            # no neighbours have one colour, so none of colour 2 has a neighbour that is handed on by then
            if tints[at] == colour and True not in neighbours(told, at):
                told[at] = True
    return told


def handed(entries):
    return [entry for entry, mark in zip(entries, marks(entries)) if mark]


def near(entries, at):
    start = max(at - NEAR_AHEAD, 0)
    return (at - start, entries[start:at + NEAR_BEHIND + 1])
