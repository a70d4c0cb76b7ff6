"""Points 2, 11 and 12: trees, what is beneath, ways."""

import copy
import itertools
import random
import unittest

from bridgefind.errors import NoTree
from bridgefind.trees import beneath, children, is_way, tree_of, way_down
from plain import (BEYOND_KNOTS, LONG, NO_LISTS, NO_NUMBERS, TREE, WRONG_TURNS, LikeAny, all_ways, broom, chain,
                   plain_beneath, some_trees, ways_up, with_no_number)


def trees():
    return [TREE] + some_trees(random.Random(31))


class TreeOf(unittest.TestCase):
    def refused(self, parents):
        with self.assertRaises(NoTree) as caught:
            tree_of(parents)
        self.assertIs(type(caught.exception), NoTree)

    def test_one_knot(self):
        self.assertEqual(tree_of([None]), (None,))
        self.assertEqual(tree_of((None,)), (None,))

    def test_lists_and_tuples(self):
        for tree in trees():
            for parents in (tree, list(tree)):
                with self.subTest(parents=parents):
                    told = tree_of(parents)
                    self.assertIs(type(told), tuple)
                    self.assertEqual(told, tree)

    def test_chains_and_brooms_of_forty(self):
        self.assertEqual(tree_of(list(chain(40))), chain(40))
        self.assertEqual(tree_of(list(broom(40))), broom(40))

    def test_all_small_trees(self):
        made = set()
        for many in range(5):
            for parents in itertools.product((None, -1, 0, 1, 2, 3, 4), repeat=many):
                right = many > 0 and parents[0] is None and all(
                    parents[knot] is not None and 0 <= parents[knot] < knot for knot in range(1, many))
                if right:
                    made.add(tree_of(list(parents)))
                else:
                    self.refused(list(parents))
        self.assertEqual(len(made), 1 + 1 + 2 + 6)

    def test_too_few_and_too_many(self):
        for parents in ([], (), chain(41), list(chain(41)), list(broom(41)), broom(41), chain(300)):
            with self.subTest(parents=parents):
                self.refused(parents)

    def test_a_first_that_is_not_none(self):
        for first in (0, 1, -1, False, True, "", "None", [], (), {}, 0.0, LikeAny()):
            with self.subTest(first=first):
                self.refused([first])
                self.refused((first, 0))
                self.refused([first, 0, 1])

    def test_a_parent_that_is_none(self):
        for parent in (None, True, False, "", "0", "None", [], [0], (), (0,), {}, {0: 0}, {0}, 0.0, 1.0,
                       float("nan"), 0j, b"", b"\0", -1, -2, -LONG, LONG, object(), int, LikeAny()):
            with self.subTest(kind=type(parent)):
                self.refused([None, parent])
                self.refused((None, 0, parent, 0))
                self.refused([None, 0, 1, parent])

    def test_a_parent_that_is_the_knot_itself_or_greater(self):
        for knot in range(1, 40):
            for parent in (knot, knot + 1, 39, 40):
                if parent >= knot:
                    self.refused(list(chain(40)[:knot]) + [parent] + list(chain(40)[knot + 1:]))

    def test_the_greatest_parent_that_is_let(self):
        for knot in range(1, 40):
            parents = list(broom(40))
            parents[knot] = knot - 1
            self.assertEqual(tree_of(parents), tuple(parents))

    def test_what_is_no_list_or_tuple(self):
        for thing in (None, True, False, 0, 1, -1, LONG, "", "0", "None", {}, {0: None}, {None}, set(),
                      frozenset((None,)), range(1), range(0), b"", bytearray(b"\0"), 0.5, object(), list,
                      tuple, iter([None]), (None for each in range(1)), len):
            with self.subTest(kind=type(thing)):
                self.refused(thing)

    def test_lists_that_hold_themselves(self):
        around = [None]
        around.append(around)
        self.refused(around)

    def test_a_list_changed_behind_the_call_changes_nothing(self):
        parents = [None, 0, 0, 1]
        tree = tree_of(parents)
        self.assertEqual(parents, [None, 0, 0, 1])
        parents[3] = 2
        parents.append(3)
        self.assertEqual(tree, (None, 0, 0, 1))
        self.assertEqual(children(tree, 1), [3])
        self.assertEqual(beneath(tree, 2), [2])

    def test_what_is_refused_stays(self):
        parents = [None, 0, [2], 1]
        kept = copy.deepcopy(parents)
        self.refused(parents)
        self.assertEqual(parents, kept)


class Children(unittest.TestCase):
    def test_worked_by_hand(self):
        self.assertEqual([children(TREE, knot) for knot in range(7)], [[1, 2], [3, 4], [5], [], [6], [], []])
        self.assertEqual(children((None,), 0), [])
        self.assertEqual(children(broom(40), 0), list(range(1, 40)))
        self.assertEqual(children(chain(40), 38), [39])
        self.assertEqual(children(chain(40), 39), [])

    def test_as_the_words_say(self):
        for tree in trees():
            told = [children(tree, knot) for knot in range(len(tree))]
            self.assertTrue(all(type(each) is list for each in told))
            self.assertTrue(all(each == sorted(each) for each in told))
            pairs = [(knot, child) for knot in range(len(tree)) for child in told[knot]]
            self.assertEqual(sorted(pairs, key=lambda pair: pair[1]), list(zip(tree, range(len(tree))))[1:])

    def test_a_change_of_what_was_told_changes_nothing(self):
        told = children(TREE, 0)
        told.append(9)
        told[0] = 8
        self.assertEqual(TREE, (None, 0, 0, 1, 1, 2, 4))
        self.assertEqual(children(TREE, 0), [1, 2])


class Beneath(unittest.TestCase):
    def test_worked_by_hand(self):
        self.assertEqual([beneath(TREE, knot) for knot in range(7)],
                         [[0, 1, 2, 3, 4, 5, 6], [1, 3, 4, 6], [2, 5], [3], [4, 6], [5], [6]])
        self.assertEqual(beneath((None,), 0), [0])
        self.assertEqual(beneath(chain(40), 17), list(range(17, 40)))
        self.assertEqual(beneath(broom(40), 0), list(range(40)))
        self.assertEqual(beneath(broom(40), 17), [17])

    def test_as_the_words_say(self):
        for tree in trees():
            for knot in range(len(tree)):
                told = beneath(tree, knot)
                self.assertIs(type(told), list)
                self.assertEqual(told, plain_beneath(tree, knot), (tree, knot))

    def test_a_change_of_what_was_told_changes_nothing(self):
        told = beneath(TREE, 1)
        told.append(9)
        told[0] = 8
        self.assertEqual(TREE, (None, 0, 0, 1, 1, 2, 4))
        self.assertEqual(beneath(TREE, 1), [1, 3, 4, 6])


class IsWay(unittest.TestCase):
    def tells(self, thing, answer, tree=TREE):
        self.assertIs(is_way(tree, thing), answer)

    def test_ways(self):
        for way in ([0], [3], [6], [0, 1], [1, 4], [0, 1, 4, 6], [1, 3], [0, 2, 5], [4, 6], [2]):
            with self.subTest(way=way):
                self.tells(way, True)
        self.tells(list(range(40)), True, chain(40))
        self.tells([39], True, chain(40))
        self.tells([0], True, (None,))

    def test_left_out_told_twice_turned_about(self):
        for thing in WRONG_TURNS:
            with self.subTest(thing=thing):
                self.tells(thing, False)

    def test_beyond_the_knots_and_below_0(self):
        for thing in BEYOND_KNOTS:
            with self.subTest(length=len(thing)):
                self.tells(thing, False)
        self.tells([1], False, (None,))
        self.tells([-1], False, (None,))
        self.tells([0, -39], False, chain(40))

    def test_what_is_no_list(self):
        for thing in NO_LISTS:
            with self.subTest(kind=type(thing)):
                self.tells(thing, False)

    def test_the_empty_list(self):
        self.tells([], False)
        self.tells([], False, (None,))

    def test_lists_with_other_things(self):
        for other in NO_NUMBERS:
            with self.subTest(kind=type(other)):
                for thing in with_no_number(other):
                    self.tells(thing, False)

    def test_lists_that_hold_themselves(self):
        around = [0]
        around.append(around)
        self.tells(around, False)

    def test_all_short_lists(self):
        for tree in ((None,), (None, 0), (None, 0, 0, 1), TREE):
            ways = all_ways(tree)
            for many in range(4):
                for thing in itertools.product(range(-1, len(tree) + 1), repeat=many):
                    self.tells(list(thing), list(thing) in ways, tree)
                    self.tells(thing, False, tree)

    def test_what_was_handed_in_stays(self):
        thing = [0, [1], 4]
        is_way(TREE, thing)
        self.assertEqual(thing, [0, [1], 4])
        way = [0, 1, 4]
        is_way(TREE, way)
        self.assertEqual(way, [0, 1, 4])


class WayDown(unittest.TestCase):
    def test_worked_by_hand(self):
        self.assertEqual(way_down(TREE, 0, 6), [0, 1, 4, 6])
        self.assertEqual(way_down(TREE, 1, 3), [1, 3])
        self.assertEqual(way_down(TREE, 2, 2), [2])
        self.assertEqual(way_down(TREE, 0, 0), [0])
        self.assertEqual(way_down(chain(40), 0, 39), list(range(40)))
        self.assertIsNone(way_down(TREE, 2, 6))
        self.assertIsNone(way_down(TREE, 6, 0))
        self.assertIsNone(way_down(TREE, 1, 0))
        self.assertIsNone(way_down(TREE, 3, 4))
        self.assertIsNone(way_down(TREE, 1, 5))

    def test_each_pair_of_knots(self):
        for tree in trees():
            for one in range(len(tree)):
                for other in range(len(tree)):
                    told = way_down(tree, one, other)
                    up = ways_up(tree, other)
                    if one not in up:
                        self.assertIsNone(told)
                        continue
                    self.assertIs(type(told), list)
                    self.assertEqual(told, up[:up.index(one) + 1][::-1])
                    self.assertIs(is_way(tree, told), True)

    def test_a_change_of_what_was_told_changes_nothing(self):
        for one, other, way in ((0, 6, [0, 1, 4, 6]), (2, 2, [2])):
            told = way_down(TREE, one, other)
            told.append(9)
            told[0] = 8
            self.assertEqual(TREE, (None, 0, 0, 1, 1, 2, 4))
            self.assertEqual(way_down(TREE, one, other), way)


if __name__ == "__main__":
    unittest.main()
