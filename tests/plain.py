"""The document's words done plainly and slowly, and things to ask of, for the tests to hold answers against.

Nothing here draws from the package.
"""

SIXTY = int("9" * 60)
LONG = 10 ** 6000


class LikeAny:
    """A thing that says it is like any other."""

    def __eq__(self, other):
        return True

    def __hash__(self):
        return 0


TREE = (None, 0, 0, 1, 1, 2, 4)
STAND = (TREE, ((2, 5, 9), (1, 5, 6, 8), (5,), (), (0, 5, 7, 9, 12), (3, 5), (4, 5, 6, 7)))
WAY = [0, 1, 4, 6]

# what is no way of TREE, sorted by why it is none
WRONG_TURNS = ([0, 4], [0, 6], [1, 6], [0, 1, 6], [0, 0], [0, 1, 1], [1, 1, 4], [0, 1, 4, 6, 6], [1, 0],
               [6, 4, 1, 0], [3, 4], [1, 2], [0, 2, 3], [0, 1, 0], [5, 0], [6, 0], [3, 0, 1])
BEYOND_KNOTS = ([7], [40], [-1], [-7], [0, 7], [0, -6], [-7, 1], [-7, -6], [6, 7], [6, -7], [LONG], [-LONG],
                [0, LONG], [0, 1, -LONG])
NO_LISTS = (None, True, False, 0, 1, "", "0", "01", (), (0,), (0, 1), {}, {0: 1}, {0}, range(1), range(2), b"\0",
            bytearray(b"\0"), 0.0, object(), list, iter([0]), TREE, LikeAny())
NO_NUMBERS = (None, True, False, "", "0", "1", [], [0], [1], (), (0,), {}, {0: 0}, {0}, 0.0, 1.0, float("nan"),
              1j, b"\1", object(), int, LikeAny())


def with_no_number(other):
    """Lists that would be ways of TREE, or near to one, were the other thing a knot."""
    return [[other], [other, 1], [0, other], [other, 0], [0, other, 3], [0, 1, other]]


def no_ways():
    """What is no way of TREE."""
    around_itself = [0]
    around_itself.append(around_itself)
    told = [[], around_itself]
    told.extend(WRONG_TURNS + BEYOND_KNOTS + NO_LISTS)
    for other in NO_NUMBERS:
        told.extend(with_no_number(other))
    return told


def plainly_turned(numbers):
    """Point 6 word by word, halving until the lowest figures are unlike."""
    told = []
    for at, number in enumerate(numbers):
        if at == 0:
            told.append(number % 2)
            continue
        here, ahead, b = number, numbers[at - 1], 0
        while here % 2 == ahead % 2:
            here, ahead, b = here // 2, ahead // 2, b + 1
        told.append(2 * b + here % 2)
    return told


def plain_code(entry):
    key, knot = entry
    return 64 * (2 * key if key >= 0 else -2 * key - 1) + knot


def plain_labels(entries, turns=5):
    numbers = [plain_code(entry) for entry in entries]
    for each in range(turns):
        numbers = plainly_turned(numbers)
    return numbers


def some_entries(chance, length, far):
    entries = {}
    while len(entries) < length:
        entries[(chance.randint(-far, far), chance.randrange(64))] = True
    return sorted(entries)


def neighbours_alike(numbers):
    return any(one == other for one, other in zip(numbers, numbers[1:]))


def around(things, at):
    """The neighbours: the one ahead and the one behind, where there are such."""
    told = []
    if at > 0:
        told.append(things[at - 1])
    if at < len(things) - 1:
        told.append(things[at + 1])
    return told


def plain_colours(numbers):
    """Point 8 word by word."""
    told = list(numbers)
    for label in (3, 4, 5):
        places = [at for at, number in enumerate(told) if number == label]
        for at in places:
            taken = around(told, at)
            told[at] = 0 if 0 not in taken else 1 if 1 not in taken else 2
    return told


def plain_marks(entries):
    """Point 9 word by word."""
    tints = plain_colours(plain_labels(entries))
    on = {at for at, tint in enumerate(tints) if at > 0 and tint == 2}
    for colour in (1, 0):
        on |= {at for at, tint in enumerate(tints)
               if at > 0 and tint == colour and at - 1 not in on and at + 1 not in on}
    return [at in on for at in range(len(entries))]


def plain_handed(entries):
    return [entry for entry, mark in zip(entries, plain_marks(entries)) if mark]


def plain_full_rows(stand):
    """Point 14 word by word: each full row in turn goes up to the parent."""
    tree, rows = stand
    fulls = [{(key, knot) for key in row} for knot, row in enumerate(rows)]
    for knot in range(len(tree) - 1, 0, -1):
        fulls[tree[knot]].update(plain_handed(sorted(fulls[knot])))
    return [sorted(full) for full in fulls]


def plain_starts(full, child_full, under):
    """For each p, over the first p entries alone."""
    told = []
    for p in range(len(full) + 1):
        handed_on = [entry for entry in full[:p] if entry[1] in under]
        told.append(child_full.index(handed_on[-1]) + 1 if handed_on else 0)
    return told


def plain_bridges(stand):
    """Point 16 word by word."""
    tree = stand[0]
    fulls = plain_full_rows(stand)
    told = []
    for knot, full in enumerate(fulls):
        owns = [len([entry for entry in full[:p] if entry[1] == knot]) for p in range(len(full) + 1)]
        jumps = [(child, plain_starts(full, fulls[child], plain_beneath(tree, child)))
                 for child in range(len(tree)) if tree[child] == knot]
        told.append((len(full), owns, jumps))
    return told


def plain_places(fulls, rows, key):
    """For each knot the places in its full row and in its row, counted one by one."""
    return [(len([entry for entry in full if entry[0] < key]), len([other for other in row if other < key]))
            for full, row in zip(fulls, rows)]


def ways_up(tree, knot):
    """A knot, its parent, and so on to the first one."""
    told = []
    while knot is not None:
        told.append(knot)
        knot = tree[knot]
    return told


def plain_beneath(tree, knot):
    return [other for other in range(len(tree)) if knot in ways_up(tree, other)]


def all_ways(tree):
    """From each knot down to each beneath it."""
    return [up[:many][::-1] for up in (ways_up(tree, knot) for knot in range(len(tree)))
            for many in range(1, len(up) + 1)]


def some_ways(chance, tree, many):
    """The longest way, some that are as long as they can be, some others."""
    ways = all_ways(tree)
    told = [max(ways, key=len)]
    for each in range(many):
        told.append(ways_up(tree, chance.randrange(len(tree)))[::-1])
        told.append(chance.choice(ways))
    return told


def chain(many):
    return (None,) + tuple(range(many - 1))


def broom(many):
    """All knots but the first under the first."""
    return (None,) + (0,) * (many - 1)


def some_tree(chance, many):
    return (None,) + tuple(chance.randrange(knot) for knot in range(1, many))


def some_trees(chance):
    """Trees of one to forty knots, with chains and brooms among them."""
    trees = [some_tree(chance, many) for many in (1, 2, 3, 4, 5, 8, 13, 21, 34, 39, 40)]
    for many in (2, 3, 7, 40):
        trees.extend((chain(many), broom(many)))
    # a chain with a broom at its end, and two long chains under the first knot
    trees.append(chain(20) + (19,) * 20)
    trees.append((None, 0) + tuple(range(38)))
    return trees


def some_rows(chance, tree, many, far):
    """Rows of many keys in all, or of as many as there are."""
    rows = [set() for knot in tree]
    for each in range(many):
        chance.choice(rows).add(chance.randint(-far, far))
    return tuple(tuple(sorted(row)) for row in rows)


def some_stands(chance):
    """Stands of many forms, with some rows empty and some keys at several knots."""
    stands = []
    for tree in some_trees(chance):
        for many, far in ((0, 9), (5, 9), (60, 30), (300, 200), (300, SIXTY)):
            stands.append((tree, some_rows(chance, tree, many, far)))
    stands.append((chain(40), ((),) * 39 + ((7,),)))
    stands.append((chain(6), (tuple(range(50)),) * 6))
    stands.append((chain(10), ((),) * 9 + (tuple(range(300)),)))
    stands.append((broom(31), tuple(tuple(range(knot % 3, 30, 3)) for knot in range(30)) + ((),)))
    stands.append(((None,), (tuple(range(-150, 150)),)))
    stands.append(((None,), ((),)))
    return stands


def small_stands(chance):
    """Stands of so few knots and keys that all ways and keys can be tried."""
    stands = []
    for many in (1, 2, 3, 5, 7):
        for keys, far in ((0, 9), (3, 9), (12, 6), (30, 12)):
            tree = some_tree(chance, many)
            stands.append((tree, some_rows(chance, tree, keys, far)))
    return stands


def keys_about(stand):
    """Each key of the stand, one less and one more, and keys below and above all."""
    keys = {key + by for row in stand[1] for key in row for by in (-1, 0, 1)}
    return sorted(key for key in keys | {-SIXTY, 0, SIXTY} if abs(key) <= SIXTY)


def some_keys_about(chance, stand, many):
    """The least and the greatest of these and some others."""
    keys = keys_about(stand)
    if len(keys) <= many:
        return keys
    return sorted(set(keys[:2] + keys[-2:] + chance.sample(keys, many)))


def lists_within(thing):
    """A told thing's lists, itself too, however deep."""
    told = [thing] if isinstance(thing, list) else []
    if isinstance(thing, (list, tuple)):
        for part in thing:
            told.extend(lists_within(part))
    return told
