"""The document's words done plainly and slowly, and things to ask of, for the tests to hold answers against.

Nothing here draws from the package.
"""

import itertools
import re

SIXTY = int("9" * 60)
LONG = 10 ** 6000


class LikeAny:
    """A thing that says it is like any other."""

    def __eq__(self, other):
        return True

    def __hash__(self):
        return 0


TREE = (None, 0, 0, 1, 1, 2, 4)
STAND = (TREE, ((2, 5, 9), (1, 5, 6, 8), (5,), (), (0, 5, 7, 9, 12), (3, 5), (4, 5, 6, 7)))
WAY = [0, 1, 4, 6]

# what is no way of TREE, sorted by why it is none
WRONG_TURNS = ([0, 4], [0, 6], [1, 6], [0, 1, 6], [0, 0], [0, 1, 1], [1, 1, 4], [0, 1, 4, 6, 6], [1, 0],
               [6, 4, 1, 0], [3, 4], [1, 2], [0, 2, 3], [0, 1, 0], [5, 0], [6, 0], [3, 0, 1])
BEYOND_KNOTS = ([7], [40], [-1], [-7], [0, 7], [0, -6], [-7, 1], [-7, -6], [6, 7], [6, -7], [LONG], [-LONG],
                [0, LONG], [0, 1, -LONG])
NO_LISTS = (None, True, False, 0, 1, "", "0", "01", (), (0,), (0, 1), {}, {0: 1}, {0}, range(1), range(2), b"\0",
            bytearray(b"\0"), 0.0, object(), list, iter([0]), TREE, LikeAny())
NO_NUMBERS = (None, True, False, "", "0", "1", [], [0], [1], (), (0,), {}, {0: 0}, {0}, 0.0, 1.0, float("nan"),
              1j, b"\1", object(), int, LikeAny())

NO_TEXTS = tuple(thing for thing in NO_LISTS + NO_NUMBERS if not isinstance(thing, str))

# words that are no whole number written as point 25 says, and some that are one, but no key
UNWRITTEN = ("", "-", "--1", "+1", "+0", "-0", "00", "01", "007", "-01", "-007", "0x1", "1_0", "1e3", "1.0", "1.", ".5",
             "1,2", "a", "3a", "a3", "None", "True", "root", "under", "1-", "1-2", "'1'", "(1)", "1/1", "~", "!", "3;",
             "-a", "1\t", "\t1", "0" * 60 + "1")
FAR_KEYS = ("1" + "0" * 60, "-1" + "0" * 60, "9" * 61, "-" + "9" * 61, "9" * 3000, "-" + "9" * 3000)


def with_no_number(other):
    """Lists that would be ways of TREE, or near to one, were the other thing a knot."""
    return [[other], [other, 1], [0, other], [other, 0], [0, other, 3], [0, 1, other]]


def no_ways():
    """What is no way of TREE."""
    around_itself = [0]
    around_itself.append(around_itself)
    told = [[], around_itself]
    told.extend(WRONG_TURNS + BEYOND_KNOTS + NO_LISTS)
    for other in NO_NUMBERS:
        told.extend(with_no_number(other))
    return told


def plainly_turned(numbers):
    """Point 6 word by word, halving until the lowest figures are unlike."""
    told = []
    for at, number in enumerate(numbers):
        if at == 0:
            told.append(number % 2)
            continue
        here, ahead, b = number, numbers[at - 1], 0
        while here % 2 == ahead % 2:
            here, ahead, b = here // 2, ahead // 2, b + 1
        told.append(2 * b + here % 2)
    return told


def plain_code(entry):
    key, knot = entry
    return 64 * (2 * key if key >= 0 else -2 * key - 1) + knot


def plain_labels(entries, turns=5):
    numbers = [plain_code(entry) for entry in entries]
    for each in range(turns):
        numbers = plainly_turned(numbers)
    return numbers


def some_entries(chance, length, far):
    entries = {}
    while len(entries) < length:
        entries[(chance.randint(-far, far), chance.randrange(64))] = True
    return sorted(entries)


def neighbours_alike(numbers):
    return any(one == other for one, other in zip(numbers, numbers[1:]))


def around(things, at):
    """The neighbours: the one ahead and the one behind, where there are such."""
    told = []
    if at > 0:
        told.append(things[at - 1])
    if at < len(things) - 1:
        told.append(things[at + 1])
    return told


def plain_colours(numbers):
    """Point 8 word by word."""
    told = list(numbers)
    for label in (3, 4, 5):
        places = [at for at, number in enumerate(told) if number == label]
        for at in places:
            taken = around(told, at)
            told[at] = 0 if 0 not in taken else 1 if 1 not in taken else 2
    return told


def plain_marks(entries):
    """Point 9 word by word."""
    tints = plain_colours(plain_labels(entries))
    on = {at for at, tint in enumerate(tints) if at > 0 and tint == 2}
    for colour in (1, 0):
        on |= {at for at, tint in enumerate(tints)
               if at > 0 and tint == colour and at - 1 not in on and at + 1 not in on}
    return [at in on for at in range(len(entries))]


def plain_handed(entries):
    return [entry for entry, mark in zip(entries, plain_marks(entries)) if mark]


def plain_full_rows(stand):
    """Point 14 word by word: each full row in turn goes up to the parent."""
    tree, rows = stand
    fulls = [{(key, knot) for key in row} for knot, row in enumerate(rows)]
    for knot in range(len(tree) - 1, 0, -1):
        fulls[tree[knot]].update(plain_handed(sorted(fulls[knot])))
    return [sorted(full) for full in fulls]


def plain_starts(full, child_full, under):
    """For each p, over the first p entries alone."""
    told = []
    for p in range(len(full) + 1):
        handed_on = [entry for entry in full[:p] if entry[1] in under]
        told.append(child_full.index(handed_on[-1]) + 1 if handed_on else 0)
    return told


def plain_bridges(stand):
    """Point 16 word by word."""
    tree = stand[0]
    fulls = plain_full_rows(stand)
    told = []
    for knot, full in enumerate(fulls):
        owns = [len([entry for entry in full[:p] if entry[1] == knot]) for p in range(len(full) + 1)]
        jumps = [(child, plain_starts(full, fulls[child], plain_beneath(tree, child)))
                 for child in range(len(tree)) if tree[child] == knot]
        told.append((len(full), owns, jumps))
    return told


def plain_places(fulls, rows, key):
    """For each knot the places in its full row and in its row, counted one by one."""
    return [(len([entry for entry in full if entry[0] < key]), len([other for other in row if other < key]))
            for full, row in zip(fulls, rows)]


def is_stand(thing):
    """Whether it is a stand as point 13 makes them, of just the kinds that are named."""
    if type(thing) is not tuple or [type(part) for part in thing] != [tuple, tuple]:
        return False
    tree, rows = thing
    if not 1 <= len(tree) <= 40 or len(rows) != len(tree) or tree[0] is not None:
        return False
    if not all(type(parent) is int and 0 <= parent < knot for knot, parent in enumerate(tree) if knot > 0):
        return False
    if any(type(row) is not tuple or list(row) != sorted(set(row)) for row in rows):
        return False
    keys = [key for row in rows for key in row]
    return len(keys) <= 300 and all(type(key) is int and abs(key) <= SIXTY for key in keys)


def with_keys(stand, knot, keys):
    rows = list(stand[1])
    rows[knot] = tuple(sorted(keys))
    return (stand[0], tuple(rows))


def plain_put(stand, knot, key):
    return with_keys(stand, knot, stand[1][knot] + (key,))


def plain_out(stand, knot, key):
    return with_keys(stand, knot, [other for other in stand[1][knot] if other != key])


def plain_hang(stand, parent):
    return (stand[0] + (parent,), stand[1] + ((),))


def plain_deed(before, after, knot):
    """Point 22 word by word, of the stands ahead of a deed and behind it, their full rows laid anew."""
    olds, news = plain_full_rows(before), plain_full_rows(after)
    told = []
    for at in ways_up(before[0], knot):
        if olds[at] == news[at]:
            break
        told.append((at, sorted(set(olds[at]) - set(news[at])), sorted(set(news[at]) - set(olds[at]))))
    return told


def ways_up(tree, knot):
    """A knot, its parent, and so on to the first one."""
    told = []
    while knot is not None:
        told.append(knot)
        knot = tree[knot]
    return told


def plain_beneath(tree, knot):
    return [other for other in range(len(tree)) if knot in ways_up(tree, other)]


def all_ways(tree):
    """From each knot down to each beneath it."""
    return [up[:many][::-1] for up in (ways_up(tree, knot) for knot in range(len(tree)))
            for many in range(1, len(up) + 1)]


def some_ways(chance, tree, many):
    """The longest way, some that are as long as they can be, some others."""
    ways = all_ways(tree)
    told = [max(ways, key=len)]
    for each in range(many):
        told.append(ways_up(tree, chance.randrange(len(tree)))[::-1])
        told.append(chance.choice(ways))
    return told


def chain(many):
    return (None,) + tuple(range(many - 1))


def broom(many):
    """All knots but the first under the first."""
    return (None,) + (0,) * (many - 1)


def some_tree(chance, many):
    return (None,) + tuple(chance.randrange(knot) for knot in range(1, many))


def some_trees(chance):
    """Trees of one to forty knots, with chains and brooms among them."""
    trees = [some_tree(chance, many) for many in (1, 2, 3, 4, 5, 8, 13, 21, 34, 39, 40)]
    for many in (2, 3, 7, 40):
        trees.extend((chain(many), broom(many)))
    # a chain with a broom at its end, and two long chains under the first knot
    trees.append(chain(20) + (19,) * 20)
    trees.append((None, 0) + tuple(range(38)))
    return trees


def some_rows(chance, tree, many, far):
    """Rows of many keys in all, or of as many as there are."""
    rows = [set() for knot in tree]
    for each in range(many):
        chance.choice(rows).add(chance.randint(-far, far))
    return tuple(tuple(sorted(row)) for row in rows)


def some_stands(chance):
    """Stands of many forms, with some rows empty and some keys at several knots."""
    stands = []
    for tree in some_trees(chance):
        for many, far in ((0, 9), (5, 9), (60, 30), (300, 200), (300, SIXTY)):
            stands.append((tree, some_rows(chance, tree, many, far)))
    stands.append((chain(40), ((),) * 39 + ((7,),)))
    stands.append((chain(6), (tuple(range(50)),) * 6))
    stands.append((chain(10), ((),) * 9 + (tuple(range(300)),)))
    stands.append((broom(31), tuple(tuple(range(knot % 3, 30, 3)) for knot in range(30)) + ((),)))
    stands.append(((None,), (tuple(range(-150, 150)),)))
    stands.append(((None,), ((),)))
    return stands


def small_stands(chance):
    """Stands of so few knots and keys that all ways and keys can be tried."""
    stands = []
    for many in (1, 2, 3, 5, 7):
        for keys, far in ((0, 9), (3, 9), (12, 6), (30, 12)):
            tree = some_tree(chance, many)
            stands.append((tree, some_rows(chance, tree, keys, far)))
    return stands


def keys_about(stand):
    """Each key of the stand, one less and one more, and keys below and above all."""
    keys = {key + by for row in stand[1] for key in row for by in (-1, 0, 1)}
    return sorted(key for key in keys | {-SIXTY, 0, SIXTY} if abs(key) <= SIXTY)


def some_keys_about(chance, stand, many):
    """The least and the greatest of these and some others."""
    keys = keys_about(stand)
    if len(keys) <= many:
        return keys
    return sorted(set(keys[:2] + keys[-2:] + chance.sample(keys, many)))


def is_written(word):
    """Whether a word is a whole number, written as point 25 says."""
    return re.fullmatch("0|-?[1-9][0-9]*", word) is not None


def plain_text(stand):
    lines = []
    for knot, parent in enumerate(stand[0]):
        line = "root" if knot == 0 else "under " + str(parent)
        for key in stand[1][knot]:
            line = line + " " + str(key)
        lines.append(line)
    return "\n".join(lines)


def plain_read(text):
    """Point 25 word by word, sign by sign: a stand, or the number of the first line at which it is none."""
    tree, rows = [], []
    for at, line in enumerate(text.split("\n")):
        words = line.split(" ")
        parent = None
        if words.pop(0) != ("root" if at == 0 else "under"):
            return at
        if at > 0:
            if not words or not re.fullmatch("0|[1-9][0-9]?", words[0]) or int(words[0]) >= at:
                return at
            parent = int(words.pop(0))
        if not all(is_written(word) and len(word.replace("-", "")) <= 60 for word in words):
            return at
        row = [int(word) for word in words]
        if row != sorted(set(row)) or at >= 40 or sum(map(len, rows)) + len(row) > 300:
            return at
        tree.append(parent)
        rows.append(tuple(row))
    return (tuple(tree), tuple(rows))


def right_orders(tree):
    """All orders by which the knots of a small tree may be named anew."""
    return [list(order) for order in itertools.permutations(range(len(tree)))
            if all(order[parent] < order[knot] for knot, parent in enumerate(tree) if knot > 0)]


def some_order(chance, tree):
    """The knots get their new numbers one by one, each by chance, when the parent has its own."""
    order = [None] * len(tree)
    for number in range(len(tree)):
        free = [knot for knot, parent in enumerate(tree)
                if order[knot] is None and (knot == 0 or order[parent] is not None)]
        order[chance.choice(free)] = number
    return order


def lists_within(thing):
    """A told thing's lists, itself too, however deep."""
    told = [thing] if isinstance(thing, list) else []
    if isinstance(thing, (list, tuple)):
        for part in thing:
            told.extend(lists_within(part))
    return told
