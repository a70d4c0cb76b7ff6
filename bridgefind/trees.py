"""Trees of knots, what lies beneath a knot, and ways down."""

from bridgefind.entries import is_whole
from bridgefind.errors import NoKnot, NoTree, NoWay

MOST_KNOTS = 40


# Things of whatever kind are asked here, so the kind is looked at ahead of any comparison.
def is_one_of_first(many, thing):
    return is_whole(thing) and 0 <= thing < many


def tree_of(parents):
    if not isinstance(parents, (list, tuple)):
        raise NoTree("a tree is made of a list or tuple")
    if not 1 <= len(parents) <= MOST_KNOTS:
        raise NoTree("a tree has 1 to 40 knots")
    if parents[0] is not None:
        raise NoTree("the first knot has no parent")
    for knot in range(1, len(parents)):
        if not is_one_of_first(knot, parents[knot]):
            raise NoTree(f"the parent of knot {knot} is no lesser knot")
    return tuple(parents)


def need_knot(tree, thing):
    if not is_one_of_first(len(tree), thing):
        raise NoKnot("a knot is the number of one that the tree has")


def children(tree, knot):
    return [other for other in range(len(tree)) if tree[other] == knot]


def beneath(tree, knot):
    told = [knot]
    # a parent's number is less than its children's, so it is told by the time they are met
    for other in range(knot + 1, len(tree)):
        if tree[other] in told:
            told.append(other)
    return told


def is_way(tree, thing):
    if not isinstance(thing, list) or len(thing) == 0:
        return False
    for knot in thing:
        if not is_one_of_first(len(tree), knot):
            return False
    for at in range(1, len(thing)):
        if tree[thing[at]] != thing[at - 1]:
            return False
    return True


def need_way(tree, thing):
    if not is_way(tree, thing):
        raise NoWay("a way is a list of knots, each but the first a child of the one ahead")


def way_down(tree, one, other):
    up = [other]
    while up[-1] != one:
        parent = tree[up[-1]]
        if parent is None:
            return None
        up.append(parent)
    return list(reversed(up))
