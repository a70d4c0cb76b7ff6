"""Points 2, 3 and 24: rows exchanged, keys raised and turned about, knots named anew."""

import copy
import inspect
import itertools
import random
import unittest

from bridgefind.errors import BridgeError, NoKey, NoOrder
from bridgefind.moves import exchanged, named, named_way, raised, turned_about
from plain import (LONG, NO_LISTS, NO_NUMBERS, SIXTY, STAND, TREE, WAY, all_ways, broom, chain, is_stand,
                   right_orders, small_stands, some_order, some_stands, with_keys)

STANDS = some_stands(random.Random(111))
SMALL = small_stands(random.Random(112)) + [STAND, ((None,), ((),)), (TREE, ((),) * 7)]
SIXTY_FIGURES = 10 ** 59


def turned_back(order):
    """The order that names the knots as they were."""
    told = [None] * len(order)
    for knot, other in enumerate(order):
        told[other] = knot
    return told


class Moved(unittest.TestCase):
    def refused(self, error, ask, *handed_in):
        with self.assertRaises(BridgeError) as caught:
            ask(*handed_in)
        self.assertIs(type(caught.exception), error)


class Exchanged(Moved):
    def test_worked_by_hand(self):
        stand = ((None, 0, 1), ((2, 4), (), (3,)))
        self.assertEqual(exchanged(stand, 0, 1), ((None, 0, 1), ((), (2, 4), (3,))))
        self.assertEqual(exchanged(stand, 0, 2), ((None, 0, 1), ((3,), (), (2, 4))))
        self.assertEqual(exchanged(stand, 2, 0), ((None, 0, 1), ((3,), (), (2, 4))))
        self.assertEqual(exchanged(stand, 2, 1), ((None, 0, 1), ((2, 4), (3,), ())))

    def test_each_two_knots(self):
        for stand in SMALL + STANDS[::5]:
            for one in range(len(stand[0])):
                for other in range(len(stand[0])):
                    told = exchanged(stand, one, other)
                    right = with_keys(with_keys(stand, one, stand[1][other]), other, stand[1][one])
                    self.assertEqual(told, right, (stand, one, other))
                    self.assertEqual(exchanged(told, one, other), stand)
                    self.assertTrue(is_stand(told))

    def test_a_knot_with_itself(self):
        for stand in SMALL:
            for knot in range(len(stand[0])):
                self.assertEqual(exchanged(stand, knot, knot), stand)


class Raised(Moved):
    def test_worked_by_hand(self):
        stand = ((None, 0, 0), ((-3, 0, 5), (), (7,)))
        self.assertEqual(raised(stand, 4), ((None, 0, 0), ((1, 4, 9), (), (11,))))
        self.assertEqual(raised(stand, -5), ((None, 0, 0), ((-8, -5, 0), (), (2,))))
        self.assertEqual(raised(stand, 0), stand)

    def test_each_key_by_as_much(self):
        for stand in SMALL + [stand for stand in STANDS if max(map(max, filter(None, stand[1])), default=0) < 10 ** 9]:
            for by in (0, 1, -1, 17, -400, SIXTY_FIGURES, -SIXTY_FIGURES):
                told = raised(stand, by)
                self.assertEqual(told, (stand[0], tuple(tuple(key + by for key in row) for row in stand[1])))
                self.assertEqual(raised(told, -by), stand)
                self.assertTrue(is_stand(told))

    def test_to_just_sixty_figures(self):
        tree = chain(3)
        told = raised((tree, ((0, 5), (), (-4, 7))), SIXTY - 7)
        self.assertEqual(told, (tree, ((SIXTY - 7, SIXTY - 2), (), (SIXTY - 11, SIXTY))))
        told = raised((tree, ((0, 5), (), (-4, 7))), 4 - SIXTY)
        self.assertEqual(told, (tree, ((4 - SIXTY, 9 - SIXTY), (), (-SIXTY, 11 - SIXTY))))
        self.assertEqual(raised((tree, ((0,), (), ())), SIXTY), (tree, ((SIXTY,), (), ())))
        self.assertEqual(raised((tree, ((), (-SIXTY, -1), ())), SIXTY), (tree, ((), (0, SIXTY - 1), ())))
        self.assertEqual(raised((tree, ((), (), (-SIXTY, SIXTY))), 0), (tree, ((), (), (-SIXTY, SIXTY))))

    def test_to_sixty_one_figures_is_refused(self):
        tree = chain(3)
        stand = (tree, ((0, 5), (), (-4, 7)))
        for by in (SIXTY - 6, SIXTY - 4, SIXTY, 3 - SIXTY, -SIXTY):
            self.refused(NoKey, raised, stand, by)
        for rows in (((SIXTY,), (), ()), ((), (0, SIXTY), ()), ((), (), (-5, SIXTY)), ((SIXTY,), (-SIXTY,), ())):
            self.refused(NoKey, raised, (tree, rows), 1)
            self.refused(NoKey, raised, (tree, rows), SIXTY)
        for rows in (((-SIXTY,), (), ()), ((), (-SIXTY, 0), ()), ((), (), (-SIXTY, 7))):
            self.refused(NoKey, raised, (tree, rows), -1)
            self.refused(NoKey, raised, (tree, rows), -SIXTY)

    def test_where_there_is_no_key_none_is_refused(self):
        for by in (SIXTY, -SIXTY, SIXTY + 1, 10 ** 70):
            self.assertEqual(raised((TREE, ((),) * 7), by), (TREE, ((),) * 7))

    def test_a_number_beyond_sixty_figures_is_not_refused_for_itself(self):
        self.assertEqual(raised((chain(1), ((-SIXTY,),)), SIXTY + 8), (chain(1), ((8,),)))


class TurnedAbout(Moved):
    def test_worked_by_hand(self):
        self.assertEqual(turned_about(((None, 0, 0), ((-3, 0, 5), (), (7,)))), ((None, 0, 0), ((-5, 0, 3), (), (-7,))))
        self.assertEqual(turned_about((chain(1), ((-SIXTY, 1, SIXTY),))), (chain(1), ((-SIXTY, -1, SIXTY),)))

    def test_each_key_and_twice_is_the_stand_again(self):
        for stand in SMALL + STANDS:
            told = turned_about(stand)
            self.assertEqual(told, (stand[0], tuple(tuple(sorted(0 - key for key in row)) for row in stand[1])))
            self.assertEqual(turned_about(told), stand)
            self.assertTrue(is_stand(told))


class Named(Moved):
    def held(self, stand, order):
        told = named(stand, order)
        self.assertTrue(is_stand(told))
        tree, rows = stand
        self.assertEqual(len(told[0]), len(tree))
        for knot in range(len(tree)):
            self.assertEqual(told[1][order[knot]], rows[knot], (stand, order))
            if knot > 0:
                self.assertEqual(told[0][order[knot]], order[tree[knot]], (stand, order))
        self.assertEqual(named(told, turned_back(order)), stand)

    def test_worked_by_hand(self):
        stand = ((None, 0, 0, 1), ((9,), (1, 4), (), (3,)))
        self.assertEqual(named(stand, [0, 1, 2, 3]), stand)
        self.assertEqual(named(stand, [0, 2, 1, 3]), ((None, 0, 0, 2), ((9,), (), (1, 4), (3,))))
        self.assertEqual(named(stand, [0, 1, 3, 2]), ((None, 0, 1, 0), ((9,), (1, 4), (3,), ())))
        self.assertEqual(named(((None,), ((5,),)), [0]), ((None,), ((5,),)))
        # three knots in a ring: an order is not the order turned back
        stand = (broom(4), ((), (1,), (2,), (3,)))
        self.assertEqual(named(stand, [0, 2, 3, 1]), (broom(4), ((), (3,), (1,), (2,))))

    def test_each_order_of_small_trees(self):
        chance = random.Random(113)
        for tree in ((None,), chain(2), chain(4), broom(5), (None, 0, 0, 1), (None, 0, 1, 0, 1), (None, 0, 0, 2, 2, 1),
                     TREE):
            stand = (tree, tuple((knot, 10 + chance.randrange(9)) for knot in range(len(tree))))
            right = right_orders(tree)
            for order in itertools.permutations(range(len(tree))):
                if list(order) in right:
                    self.held(stand, list(order))
                else:
                    self.refused(NoOrder, named, stand, list(order))

    def test_how_many_orders_are_right(self):
        # worked by hand, so that the test above is known to try both kinds
        self.assertEqual(len(right_orders(chain(4))), 1)
        self.assertEqual(len(right_orders(broom(5))), 24)
        self.assertEqual(len(right_orders((None, 0, 0, 1))), 3)

    def test_some_orders_of_many_stands(self):
        chance = random.Random(114)
        for stand in STANDS:
            self.held(stand, some_order(chance, stand[0]))

    def test_a_parent_that_is_not_lesser(self):
        for order in ([0, 1, 2, 3, 4, 6, 5, 7], [0, 2, 1, 3], [0, 1, 3, 2]):
            self.refused(NoOrder, named, (chain(len(order)), ((),) * len(order)), order)
        for order in ([0, 4, 2, 3, 1, 5, 6], [0, 1, 2, 3, 6, 5, 4], [0, 1, 5, 3, 4, 2, 6], [0, 3, 2, 1, 4, 5, 6]):
            self.refused(NoOrder, named, STAND, order)

    def test_what_is_no_order(self):
        for order in ([1, 0, 2, 3, 4, 5, 6], [6, 1, 2, 3, 4, 5, 0], [6, 5, 4, 3, 2, 1, 0], [1, 2, 3, 4, 5, 6, 7],
                      [1, 1, 2, 3, 4, 5, 6], [0, 1, 1, 3, 4, 5, 6], [0, 0, 2, 3, 4, 5, 6], [0, 1, 2, 3, 4, 5, 5],
                      [0, 1, 2, 3, 4, 6, 6], [0, 1, 2, 3, 5, 5, 6], [0, 1, 2, 4, 4, 5, 6], [0] * 7, [], [0],
                      [0, 1, 2, 3, 4, 5], [1, 2, 3, 4, 5, 6], [0, 1, 2, 3, 4, 5, 6, 7], [0, 1, 2, 3, 4, 5, 6, 6],
                      [0, 1, 2, 3, 4, 5, 6, 0], [0, 1, 2, 3, 4, 5, 7], [0, 1, 2, 3, 4, 5, 8], [0, 1, 2, 3, 4, 5, -1],
                      [0, -6, 2, 3, 4, 5, 6], [-7, 1, 2, 3, 4, 5, 6], [0, 1, 2, 3, 4, 5, LONG],
                      [0, 1, 2, 3, 4, 5, -LONG], [LONG] * 7, list(range(40))):
            self.refused(NoOrder, named, STAND, order)

    def test_orders_of_one_knot(self):
        stand = ((None,), ((5,),))
        for thing in ([], [1], [-1], [0, 0], [0, 1], [None], [False], ["0"], [[]], [[0]]):
            self.refused(NoOrder, named, stand, thing)

    def test_things_of_whatever_kind_in_an_order(self):
        for other in NO_NUMBERS:
            for at in range(7):
                order = [0, 1, 2, 3, 4, 5, 6]
                order[at] = other
                with self.subTest(kind=type(other), at=at):
                    self.refused(NoOrder, named, STAND, order)
            self.refused(NoOrder, named, STAND, [other] * 7)
            self.refused(NoOrder, named, STAND, [0, 1, 2, 3, 4, 5, 6, other])
            self.refused(NoOrder, named, ((None,), ((),)), [other])
        around_itself = [0, 1, 2, 3, 4, 5]
        around_itself.append(around_itself)
        self.refused(NoOrder, named, STAND, around_itself)

    def test_things_that_are_no_lists(self):
        right = (0, 1, 2, 3, 4, 5, 6)
        for thing in NO_LISTS + (right, range(7), dict.fromkeys(right), set(right), "0123456", bytes(right),
                                 iter(right), bytearray(right), 7, LONG):
            with self.subTest(kind=type(thing)):
                self.refused(NoOrder, named, STAND, thing)
        for thing in NO_LISTS:
            self.refused(NoOrder, named, ((None,), ((),)), thing)


class NamedWay(Moved):
    def test_worked_by_hand(self):
        self.assertEqual(named_way([0, 1, 3], [0, 2, 1, 3]), [0, 2, 3])
        self.assertEqual(named_way([3], [0, 2, 1, 3]), [3])
        self.assertEqual(named_way([0], [0]), [0])

    def test_a_way_stays_a_way(self):
        chance = random.Random(115)
        for stand in SMALL:
            order = some_order(chance, stand[0])
            tree = named(stand, order)[0]
            for way in all_ways(stand[0]):
                told = named_way(way, order)
                self.assertIs(type(told), list)
                self.assertEqual(told, [order[knot] for knot in way])
                self.assertEqual([tree[knot] for knot in told[1:]], told[:-1])
                self.assertEqual(named_way(told, turned_back(order)), way)


class AllMoves(Moved):
    def test_what_was_handed_in_stays(self):
        kept = copy.deepcopy(STAND)
        order, way = [0, 2, 1, 5, 4, 3, 6], list(WAY)
        exchanged(STAND, 0, 6)
        raised(STAND, 5)
        turned_about(STAND)
        named(STAND, order)
        named_way(way, order)
        self.assertEqual((STAND, order, way), (kept, [0, 2, 1, 5, 4, 3, 6], WAY))
        thing = [0, [1], 2, 3, 4, 5, 6]
        self.refused(NoOrder, named, STAND, thing)
        self.assertEqual(thing, [0, [1], 2, 3, 4, 5, 6])

    def test_what_was_told_is_the_askers_own(self):
        order, way = [0, 2, 1, 5, 4, 3, 6], list(WAY)
        stand, told = named(STAND, order), named_way(way, order)
        right, right_way = copy.deepcopy(stand), list(told)
        order[1], order[2] = 1, 2
        way[0] = 9
        self.assertEqual((stand, told), (right, right_way))
        told.append(9)
        self.assertEqual(named_way(list(WAY), [0, 2, 1, 5, 4, 3, 6]), right_way)
        self.assertEqual(way, [9, 1, 4, 6])

    def test_the_arguments_names(self):
        for move, names in ((exchanged, ["stand", "one", "other"]), (raised, ["stand", "by"]),
                            (turned_about, ["stand"]), (named, ["stand", "order"]), (named_way, ["way", "order"])):
            self.assertEqual(list(inspect.signature(move).parameters), names)


if __name__ == "__main__":
    unittest.main()
