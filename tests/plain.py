"""The document's words done plainly and slowly, and things to ask of, for the tests to hold answers against.

Nothing here draws from the package.
"""

SIXTY = int("9" * 60)


def plainly_turned(numbers):
    """Point 6 word by word, halving until the lowest figures are unlike."""
    told = []
    for at, number in enumerate(numbers):
        if at == 0:
            told.append(number % 2)
            continue
        here, ahead, b = number, numbers[at - 1], 0
        while here % 2 == ahead % 2:
            here, ahead, b = here // 2, ahead // 2, b + 1
        told.append(2 * b + here % 2)
    return told


def plain_code(entry):
    key, knot = entry
    return 64 * (2 * key if key >= 0 else -2 * key - 1) + knot


def plain_labels(entries, turns=5):
    numbers = [plain_code(entry) for entry in entries]
    for each in range(turns):
        numbers = plainly_turned(numbers)
    return numbers


def some_entries(chance, length, far):
    entries = {}
    while len(entries) < length:
        entries[(chance.randint(-far, far), chance.randrange(64))] = True
    return sorted(entries)


def neighbours_alike(numbers):
    return any(one == other for one, other in zip(numbers, numbers[1:]))


def around(things, at):
    """The neighbours: the one ahead and the one behind, where there are such."""
    told = []
    if at > 0:
        told.append(things[at - 1])
    if at < len(things) - 1:
        told.append(things[at + 1])
    return told


def plain_colours(numbers):
    """Point 8 word by word."""
    told = list(numbers)
    for label in (3, 4, 5):
        places = [at for at, number in enumerate(told) if number == label]
        for at in places:
            taken = around(told, at)
            told[at] = 0 if 0 not in taken else 1 if 1 not in taken else 2
    return told


def plain_marks(entries):
    """Point 9 word by word."""
    tints = plain_colours(plain_labels(entries))
    on = {at for at, tint in enumerate(tints) if at > 0 and tint == 2}
    for colour in (1, 0):
        on |= {at for at, tint in enumerate(tints)
               if at > 0 and tint == colour and at - 1 not in on and at + 1 not in on}
    return [at in on for at in range(len(entries))]


def plain_handed(entries):
    return [entry for entry, mark in zip(entries, plain_marks(entries)) if mark]


def plain_full_rows(stand):
    """Point 14 word by word: each full row in turn goes up to the parent."""
    tree, rows = stand
    fulls = [{(key, knot) for key in row} for knot, row in enumerate(rows)]
    for knot in range(len(tree) - 1, 0, -1):
        fulls[tree[knot]].update(plain_handed(sorted(fulls[knot])))
    return [sorted(full) for full in fulls]


def ways_up(tree, knot):
    """A knot, its parent, and so on to the first one."""
    told = []
    while knot is not None:
        told.append(knot)
        knot = tree[knot]
    return told


def plain_beneath(tree, knot):
    return [other for other in range(len(tree)) if knot in ways_up(tree, other)]


def chain(many):
    return (None,) + tuple(range(many - 1))


def broom(many):
    """All knots but the first under the first."""
    return (None,) + (0,) * (many - 1)


def some_tree(chance, many):
    return (None,) + tuple(chance.randrange(knot) for knot in range(1, many))


def some_trees(chance):
    """Trees of one to forty knots, with chains and brooms among them."""
    trees = [some_tree(chance, many) for many in (1, 2, 3, 4, 5, 8, 13, 21, 34, 39, 40)]
    for many in (2, 3, 7, 40):
        trees.extend((chain(many), broom(many)))
    # a chain with a broom at its end, and two long chains under the first knot
    trees.append(chain(20) + (19,) * 20)
    trees.append((None, 0) + tuple(range(38)))
    return trees


def some_rows(chance, tree, many, far):
    """Rows of many keys in all, or of as many as there are."""
    rows = [set() for knot in tree]
    for each in range(many):
        chance.choice(rows).add(chance.randint(-far, far))
    return tuple(tuple(sorted(row)) for row in rows)


def some_stands(chance):
    """Stands of many forms, with some rows empty and some keys at several knots."""
    stands = []
    for tree in some_trees(chance):
        for many, far in ((0, 9), (5, 9), (60, 30), (300, 200), (300, SIXTY)):
            stands.append((tree, some_rows(chance, tree, many, far)))
    stands.append((chain(40), ((),) * 39 + ((7,),)))
    stands.append((chain(6), (tuple(range(50)),) * 6))
    stands.append((chain(10), ((),) * 9 + (tuple(range(300)),)))
    stands.append((broom(31), tuple(tuple(range(knot % 3, 30, 3)) for knot in range(30)) + ((),)))
    stands.append(((None,), (tuple(range(-150, 150)),)))
    stands.append(((None,), ((),)))
    return stands


def lists_within(thing):
    """A told thing's lists, itself too, however deep."""
    told = [thing] if isinstance(thing, list) else []
    if isinstance(thing, (list, tuple)):
        for part in thing:
            told.extend(lists_within(part))
    return told
