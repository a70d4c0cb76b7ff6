"""Points 2, 3 and 13 to 15: stands, full rows, weights."""

import copy
import random
import unittest

from bridgefind.errors import NoStand
from bridgefind.marks import handed
from bridgefind.stands import full_row, full_rows, stand_of, weight, weight_beneath
from plain import (SIXTY, broom, chain, lists_within, plain_beneath, plain_full_rows, some_rows, some_stands,
                   some_trees)

TREE = (None, 0, 0, 1)
STANDS = some_stands(random.Random(41))


class StandOf(unittest.TestCase):
    def refused(self, tree, rows):
        with self.assertRaises(NoStand) as caught:
            stand_of(tree, rows)
        self.assertIs(type(caught.exception), NoStand)

    def right_kinds(self, stand):
        self.assertIs(type(stand), tuple)
        self.assertEqual(len(stand), 2)
        self.assertIs(type(stand[0]), tuple)
        self.assertIs(type(stand[1]), tuple)
        self.assertTrue(all(type(row) is tuple for row in stand[1]))

    def test_rows_as_lists_and_tuples_in_any_order(self):
        right = (TREE, ((3, 7), (), (-2, 0, 4), (-SIXTY, SIXTY)))
        for rows in ([[3, 7], [], [-2, 0, 4], [-SIXTY, SIXTY]], ((7, 3), (), (4, -2, 0), (SIXTY, -SIXTY)),
                     [(7, 3), [], (0, 4, -2), [SIXTY, -SIXTY]], ([3, 7], (), [4, 0, -2], (-SIXTY, SIXTY))):
            with self.subTest(rows=rows):
                told = stand_of(TREE, rows)
                self.right_kinds(told)
                self.assertEqual(told, right)

    def test_any_order(self):
        chance = random.Random(42)
        for tree in some_trees(chance):
            rows = some_rows(chance, tree, 200, 99)
            mixed = [list(row) for row in rows]
            for row in mixed:
                chance.shuffle(row)
            self.assertEqual(stand_of(tree, mixed), (tree, rows))

    def test_empty_rows(self):
        self.assertEqual(stand_of((None,), [[]]), ((None,), ((),)))
        self.assertEqual(stand_of(chain(40), [()] * 40), (chain(40), ((),) * 40))

    def test_one_key_at_several_knots(self):
        self.assertEqual(stand_of(TREE, [[5], [5], [5], [5]]), (TREE, ((5,),) * 4))

    def test_300_keys_and_301(self):
        keys = list(range(299, -1, -1))
        self.assertEqual(stand_of((None,), [keys]), ((None,), (tuple(range(300)),)))
        self.refused((None,), [keys + [300]])
        self.assertEqual(stand_of(TREE, [keys[:100], keys[:100], [], keys[:100]])[1][3], tuple(range(200, 300)))
        self.refused(TREE, [keys[:100], keys[:100], [7], keys[:100]])
        self.assertEqual(len(stand_of(broom(30), [keys[:10]] * 30)[1]), 30)
        self.refused(broom(31), [keys[:10]] * 30 + [[1]])

    def test_what_is_no_list_or_tuple_of_rows(self):
        for thing in (None, True, False, 0, 1, "", "a", "abcd", {}, {0: []}, {0: (), 1: (), 2: (), 3: ()}, set(),
                      frozenset((1, 2, 3, 4)), range(4), range(1), b"abcd", 4.0, object(), list,
                      iter([[], [], [], []])):
            with self.subTest(kind=type(thing)):
                self.refused(TREE, thing)
                self.refused((None,), thing)

    def test_too_few_and_too_many_rows(self):
        for many in (0, 1, 3, 5, 40):
            with self.subTest(many=many):
                self.refused(TREE, [[] for each in range(many)])
                self.refused(TREE, ((),) * many)
        self.refused((None,), [])
        self.refused((None,), ())
        self.refused((None,), [[], []])
        self.refused(chain(40), [[]] * 39)
        self.refused(chain(40), [[]] * 41)

    def test_a_row_that_is_none(self):
        for row in (None, True, False, 0, 3, "", "12", {}, {1: 2}, set(), {1}, frozenset(), range(0), range(3),
                    b"", b"12", 1.5, object(), int, iter([])):
            with self.subTest(kind=type(row)):
                for at in range(4):
                    rows = [[1], (2, 3), [], [4]]
                    rows[at] = row
                    self.refused(TREE, rows)
                    self.refused(TREE, tuple(rows))

    def test_things_that_are_no_keys(self):
        for thing in (True, False, None, "", "3", [], [3], (), (3,), (3, 0), {}, {3: 3}, {3}, 3.0, float("nan"),
                      float("inf"), 3j, b"3", object(), int, 10 ** 60, -(10 ** 60), int("9" * 61), 10 ** 6000):
            with self.subTest(kind=type(thing)):
                for row in ([thing], (thing,), [thing, 1, 2], [1, thing, 2], (2, 1, thing), [thing, thing]):
                    self.refused(TREE, [[5], [], row, [6]])
                    self.refused((None,), (row,))

    def test_a_row_that_holds_itself(self):
        row = [1]
        row.append(row)
        self.refused((None,), [row])
        self.refused((None,), row)

    def test_sixty_figures(self):
        self.assertEqual(stand_of((None,), [[SIXTY, -SIXTY]]), ((None,), ((-SIXTY, SIXTY),)))

    def test_one_key_twice(self):
        for row in ([1, 1], (1, 1), [1, 2, 1], [2, 1, 3, 2], [0, 5, -0], [SIXTY, 1, SIXTY], [-4, 4, -4]):
            with self.subTest(row=row):
                self.refused((None,), [row])
                self.refused(TREE, [[], [1], row, []])
        # a truth that is like a key is refused too, for it is none
        self.refused((None,), [[1, True]])
        self.refused((None,), [[False, 0]])

    def test_what_was_handed_in_stays(self):
        for rows in ([[7, 3], [], (4, -2), [1]], [[7, 3], [], [4, "x"], [1]], [[7, 3], [3, 3], [], []],
                     [[7, 3], [2, 1], []]):
            kept = copy.deepcopy(rows)
            try:
                stand_of(TREE, rows)
            except NoStand:
                pass
            self.assertEqual(rows, kept)

    def test_a_later_change_of_what_was_handed_in_changes_nothing(self):
        rows = [[3, 7], [], [-2], [1]]
        stand = stand_of(TREE, rows)
        rows[0].append(9)
        rows[1].append(5)
        rows[2] = [8]
        rows.pop()
        self.assertEqual(stand, (TREE, ((3, 7), (), (-2,), (1,))))
        self.assertEqual(weight(stand)[0], 4)


class FullRows(unittest.TestCase):
    def test_no_keys(self):
        self.assertEqual(full_rows(((None,), ((),))), [[]])
        self.assertEqual(full_rows((TREE, ((),) * 4)), [[], [], [], []])
        self.assertEqual(full_row((TREE, ((),) * 4), 0), [])

    def test_one_knot(self):
        stand = ((None,), ((-3, 0, 8),))
        self.assertEqual(full_row(stand, 0), [(-3, 0), (0, 0), (8, 0)])
        self.assertEqual(full_rows(stand), [[(-3, 0), (0, 0), (8, 0)]])

    def test_worked_by_hand(self):
        # of two entries the second is handed on, of one none, and of these three the middle one
        stand = ((None, 0, 1), ((), (), (3, 7)))
        self.assertEqual(full_rows(stand), [[], [(7, 2)], [(3, 2), (7, 2)]])
        stand = ((None, 0, 1), ((), (5,), (3, 7)))
        self.assertEqual(full_rows(stand), [[(7, 2)], [(5, 1), (7, 2)], [(3, 2), (7, 2)]])
        stand = ((None, 0, 1), ((), (9,), (3, 7)))
        self.assertEqual(full_rows(stand), [[(9, 1)], [(7, 2), (9, 1)], [(3, 2), (7, 2)]])
        stand = ((None, 0), ((1,), (0, 1, 2)))
        self.assertEqual(full_rows(stand)[1], [(0, 1), (1, 1), (2, 1)])
        self.assertEqual(full_rows(stand)[0], [(1, 0)] + handed([(0, 1), (1, 1), (2, 1)]))
        stand = ((None, 0, 0), ((4,), (4, 6), (4, 6)))
        self.assertEqual(full_rows(stand), [[(4, 0), (6, 1), (6, 2)], [(4, 1), (6, 1)], [(4, 2), (6, 2)]])

    def test_chains_with_single_keys_at_the_far_end(self):
        stand = (chain(40), ((),) * 39 + ((7,),))
        self.assertEqual(full_rows(stand), [[]] * 39 + [[(7, 39)]])
        stand = (chain(40), ((),) * 39 + ((7, 9),))
        self.assertEqual(full_rows(stand), [[]] * 38 + [[(9, 39)], [(7, 39), (9, 39)]])
        stand = (chain(40), ((),) * 38 + ((1,), (7, 9)))
        self.assertEqual(full_rows(stand), [[]] * 37 + [[(9, 39)], [(1, 38), (9, 39)], [(7, 39), (9, 39)]])

    def test_rows_like_that_of_the_knot_ahead(self):
        for many in (1, 2, 3, 50):
            stand = (chain(6), (tuple(range(many)),) * 6)
            self.assertEqual(full_rows(stand), plain_full_rows(stand))

    def test_as_the_words_say(self):
        for stand in STANDS:
            right = plain_full_rows(stand)
            self.assertEqual(full_rows(stand), right)
            for knot in range(len(right)):
                self.assertEqual(full_row(stand, knot), right[knot], (stand, knot))

    def test_lists_of_tuples_are_told(self):
        for stand in STANDS[::7]:
            told = full_rows(stand)
            self.assertIs(type(told), list)
            for full in told + [full_row(stand, 0)]:
                self.assertIs(type(full), list)
                self.assertTrue(all(type(entry) is tuple for entry in full))

    def test_each_entry_at_the_knots_to_which_it_is_handed_on_and_no_further(self):
        for stand in STANDS:
            tree, rows = stand
            told = full_rows(stand)
            where = {}
            for knot, full in enumerate(told):
                self.assertEqual(full, sorted(set(full)))
                for entry in full:
                    where.setdefault(entry, []).append(knot)
            right = {}
            for knot in range(len(tree)):
                for key in rows[knot]:
                    at = knot
                    right[(key, knot)] = [at]
                    while tree[at] is not None and (key, knot) in handed(told[at]):
                        at = tree[at]
                        right[(key, knot)].insert(0, at)
            self.assertEqual(where, right)

    def test_the_rows_beside_have_no_part(self):
        stand = ((None, 0, 0, 1), ((1, 5), (2, 4, 6, 8), (3, 4, 5), (4, 7, 9)))
        other = ((None, 0, 0, 1), ((), (2, 4, 6, 8), (), (4, 7, 9)))
        self.assertEqual(full_row(stand, 1), full_row(other, 1))
        self.assertEqual(full_row(stand, 3), full_row(other, 3))

    def test_what_was_told_is_the_askers_own(self):
        for stand in STANDS[::9]:
            kept = copy.deepcopy(stand)
            right = plain_full_rows(stand)
            told = full_rows(stand)
            within = lists_within(told)
            self.assertEqual(len({id(each) for each in within}), len(within))
            for each in within:
                each.append((0, 0))
            again = full_row(stand, 0)
            again.insert(0, (0, 0))
            self.assertEqual(stand, kept)
            self.assertEqual(full_rows(stand), right)
            self.assertEqual(full_row(stand, 0), right[0])


class Weight(unittest.TestCase):
    def test_worked_by_hand(self):
        self.assertEqual(weight(((None,), ((),))), (0, 0))
        self.assertEqual(weight(((None,), ((4, 5, 6),))), (3, 3))
        stand = ((None, 0, 1), ((), (5,), (3, 7)))
        self.assertEqual(weight(stand), (3, 5))
        self.assertEqual([weight_beneath(stand, knot) for knot in range(3)], [(3, 5), (3, 4), (2, 2)])
        stand = ((None, 0, 0), ((4,), (4, 6), (4, 6)))
        self.assertEqual([weight_beneath(stand, knot) for knot in range(3)], [(5, 7), (2, 2), (2, 2)])
        self.assertEqual(weight((chain(40), ((),) * 39 + ((7,),))), (1, 1))

    def test_of_each_knot(self):
        for stand in STANDS:
            tree, rows = stand
            fulls = plain_full_rows(stand)
            for knot in range(len(tree)):
                under = plain_beneath(tree, knot)
                told = weight_beneath(stand, knot)
                self.assertIs(type(told), tuple)
                self.assertEqual(told, (sum(len(rows[at]) for at in under), sum(len(fulls[at]) for at in under)))
                self.assertLessEqual(told[1], 2 * told[0])
                self.assertGreaterEqual(told[1], told[0])
            self.assertIs(type(weight(stand)), tuple)
            self.assertEqual(weight(stand), weight_beneath(stand, 0))

    def test_what_was_handed_in_stays(self):
        stand = (TREE, ((3, 7), (), (-2,), (1,)))
        kept = copy.deepcopy(stand)
        weight(stand)
        weight_beneath(stand, 1)
        self.assertEqual(stand, kept)


if __name__ == "__main__":
    unittest.main()
