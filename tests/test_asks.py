"""Points 2, 3, 12, 19 and 20: asks of a stand and a way."""

import copy
import inspect
import random
import unittest

from bridgefind.asks import above, below, first_with, joined_from, places, stretch, who_has
from bridgefind.errors import NoWay
from plain import (SIXTY, STAND, TREE, WAY, all_ways, chain, keys_about, lists_within, no_ways, small_stands,
                   some_keys_about, some_stands, some_ways)

STANDS = some_stands(random.Random(81))
EMPTY = (TREE, ((),) * 7)
SMALL = [STAND, EMPTY] + small_stands(random.Random(82))


def each_ask(chance):
    """Stands, ways and keys: all of small stands, some of others."""
    for stand in SMALL:
        for way in all_ways(stand[0]):
            for key in keys_about(stand):
                yield stand, way, key
    for stand in STANDS:
        for way in some_ways(chance, stand[0], 2):
            for key in some_keys_about(chance, stand, 6):
                yield stand, way, key


def all_entries(stand, way):
    return sorted((key, knot) for knot in way for key in stand[1][knot])


class Places(unittest.TestCase):
    def test_worked_by_hand(self):
        self.assertEqual(places(STAND, WAY, 5), [1, 1, 1, 1])
        self.assertEqual(places(STAND, WAY, 6), [2, 2, 2, 2])
        self.assertEqual(places(STAND, WAY, 7), [2, 3, 2, 3])
        self.assertEqual(places(STAND, [1, 3], 99), [4, 0])
        self.assertEqual(places(STAND, [0, 2, 5], -99), [0, 0, 0])
        self.assertEqual(places(STAND, [3], 0), [0])

    def test_counted_one_by_one(self):
        for stand, way, key in each_ask(random.Random(83)):
            told = places(stand, way, key)
            right = [len([other for other in stand[1][knot] if other < key]) for knot in way]
            self.assertEqual(told, right, (stand, way, key))
            self.assertIs(type(told), list)
            self.assertTrue(all(type(number) is int for number in told))


class WhoHas(unittest.TestCase):
    def test_worked_by_hand(self):
        self.assertEqual(who_has(STAND, WAY, 5), [0, 1, 4, 6])
        self.assertEqual(who_has(STAND, WAY, 9), [0, 4])
        self.assertEqual(who_has(STAND, WAY, 7), [4, 6])
        self.assertEqual(who_has(STAND, WAY, 12), [4])
        self.assertEqual(who_has(STAND, WAY, 3), [])
        self.assertEqual(who_has(STAND, [1, 3], 5), [1])
        self.assertEqual(who_has(STAND, [3], 5), [])
        self.assertEqual(who_has(STAND, [0, 2, 5], -SIXTY), [])

    def test_as_the_rows_tell(self):
        for stand, way, key in each_ask(random.Random(84)):
            told = who_has(stand, way, key)
            right = [knot for knot in way if [other for other in stand[1][knot] if other == key]]
            self.assertEqual(told, right, (stand, way, key))
            self.assertIs(type(told), list)


class FirstWith(unittest.TestCase):
    def test_worked_by_hand(self):
        self.assertEqual(first_with(STAND, WAY, 5), 0)
        self.assertEqual(first_with(STAND, [1, 4, 6], 5), 1)
        self.assertEqual(first_with(STAND, WAY, 7), 4)
        self.assertEqual(first_with(STAND, [6], 7), 6)
        self.assertIsNone(first_with(STAND, WAY, 3))
        self.assertIsNone(first_with(STAND, [3], 5))
        self.assertIsNone(first_with(EMPTY, WAY, 0))

    def test_as_the_rows_tell(self):
        for stand, way, key in each_ask(random.Random(85)):
            told = first_with(stand, way, key)
            right = next((knot for knot in way if key in stand[1][knot]), None)
            self.assertEqual(told, right, (stand, way, key))
            self.assertIs(type(told), type(right))


class Stretch(unittest.TestCase):
    def test_worked_by_hand(self):
        self.assertEqual(stretch(STAND, WAY, 5, 9), [[5], [5, 6, 8], [5, 7], [5, 6, 7]])
        self.assertEqual(stretch(STAND, WAY, 5, 10), [[5, 9], [5, 6, 8], [5, 7, 9], [5, 6, 7]])
        self.assertEqual(stretch(STAND, WAY, 5, 6), [[5], [5], [5], [5]])
        self.assertEqual(stretch(STAND, WAY, 10, 12), [[], [], [], []])
        self.assertEqual(stretch(STAND, WAY, 10, 13), [[], [], [12], []])
        self.assertEqual(stretch(STAND, [1, 3], -SIXTY, SIXTY), [[1, 5, 6, 8], []])
        self.assertEqual(stretch(EMPTY, WAY, -SIXTY, SIXTY), [[], [], [], []])

    def test_a_high_that_is_not_greater(self):
        for low, high in ((5, 5), (6, 5), (9, 1), (SIXTY, -SIXTY), (0, -1), (12, 0)):
            self.assertEqual(stretch(STAND, WAY, low, high), [[], [], [], []])

    def held(self, stand, way, low, high):
        told = stretch(stand, way, low, high)
        right = [[key for key in stand[1][knot] if low <= key < high] for knot in way]
        self.assertEqual(told, right, (stand, way, low, high))
        self.assertTrue(all(type(each) is list for each in [told] + told))

    def test_all_bounds_of_small_stands(self):
        for stand in SMALL:
            way = max(all_ways(stand[0]), key=len)
            for low in keys_about(stand):
                for high in keys_about(stand):
                    self.held(stand, way, low, high)

    def test_bounds_of_many_stands(self):
        chance = random.Random(86)
        for stand, way, low in each_ask(chance):
            self.held(stand, way, low, chance.choice(keys_about(stand)[::-1]))


class AboveAndBelow(unittest.TestCase):
    def test_worked_by_hand(self):
        for key, over, under in ((-1, (0, 4), None), (0, (0, 4), None), (1, (1, 1), (0, 4)), (2, (2, 0), (1, 1)),
                                 (5, (5, 0), (4, 6)), (6, (6, 1), (5, 6)), (7, (7, 4), (6, 6)), (9, (9, 0), (8, 1)),
                                 (10, (12, 4), (9, 4)), (12, (12, 4), (9, 4)), (13, None, (12, 4))):
            with self.subTest(key=key):
                self.assertEqual(above(STAND, WAY, key), over)
                self.assertEqual(below(STAND, WAY, key), under)

    def test_where_several_rows_have_the_key_the_knots_number_decides(self):
        stand = (chain(5), ((3,), (), (3,), (3,), ()))
        self.assertEqual(above(stand, [0, 1, 2, 3, 4], 3), (3, 0))
        self.assertEqual(below(stand, [0, 1, 2, 3, 4], 4), (3, 3))
        self.assertEqual(above(stand, [1, 2, 3], 2), (3, 2))
        self.assertEqual(below(stand, [1, 2], 9), (3, 2))

    def test_empty_rows(self):
        for way in all_ways(TREE):
            for key in (-SIXTY, 0, SIXTY):
                self.assertIsNone(above(EMPTY, way, key))
                self.assertIsNone(below(EMPTY, way, key))
        self.assertIsNone(above(STAND, [3], 0))
        self.assertIsNone(below(STAND, [3], 9))

    def test_as_the_rows_tell(self):
        for stand, way, key in each_ask(random.Random(87)):
            entries = all_entries(stand, way)
            over, under = above(stand, way, key), below(stand, way, key)
            self.assertEqual(over, min([entry for entry in entries if entry[0] >= key], default=None))
            self.assertEqual(under, max([entry for entry in entries if entry[0] < key], default=None))
            self.assertTrue(all(entry is None or type(entry) is tuple for entry in (over, under)))


class JoinedFrom(unittest.TestCase):
    def test_worked_by_hand(self):
        right = [(6, 1), (6, 6), (7, 4), (7, 6), (8, 1), (9, 0), (9, 4), (12, 4)]
        for many in (0, 1, 2, 7, 8, 9, 300, SIXTY):
            self.assertEqual(joined_from(STAND, WAY, 6, many), right[:many])
        self.assertEqual(joined_from(STAND, WAY, 5, 5), [(5, 0), (5, 1), (5, 4), (5, 6), (6, 1)])
        self.assertEqual(joined_from(STAND, [1, 3], -9, 2), [(1, 1), (5, 1)])
        self.assertEqual(joined_from(STAND, WAY, 13, 5), [])
        self.assertEqual(joined_from(STAND, [3], 0, 5), [])
        self.assertEqual(joined_from(EMPTY, WAY, 0, 5), [])

    def test_as_the_rows_tell(self):
        for stand, way, key in each_ask(random.Random(88)):
            right = [entry for entry in all_entries(stand, way) if entry[0] >= key]
            for many in (0, 1, 2, len(right) - 1, len(right), len(right) + 1, SIXTY):
                if many >= 0:
                    told = joined_from(stand, way, key, many)
                    self.assertEqual(told, right[:many], (stand, way, key, many))
                    self.assertIs(type(told), list)
                    self.assertTrue(all(type(entry) is tuple for entry in told))

    def test_less_than_none_is_none(self):
        for many in (-1, -2, -SIXTY):
            for key in (-SIXTY, 5, SIXTY):
                self.assertEqual(joined_from(STAND, WAY, key, many), [])


ASKS = ((places, ["stand", "way", "key"], (5,)), (who_has, ["stand", "way", "key"], (5,)),
        (first_with, ["stand", "way", "key"], (5,)), (stretch, ["stand", "way", "low", "high"], (2, 9)),
        (above, ["stand", "way", "key"], (5,)), (below, ["stand", "way", "key"], (6,)),
        (joined_from, ["stand", "way", "key", "many"], (2, 5)))


class AllAsks(unittest.TestCase):
    def refused(self, ask, stand, thing, handed_in):
        with self.assertRaises(NoWay) as caught:
            ask(stand, thing, *handed_in)
        self.assertIs(type(caught.exception), NoWay)

    def test_no_way_is_refused(self):
        for ask, names, handed_in in ASKS:
            for thing in no_ways():
                for stand in (STAND, EMPTY):
                    with self.subTest(ask=ask, kind=type(thing)):
                        self.refused(ask, stand, thing, handed_in)

    def test_no_way_is_refused_where_nothing_would_be_told(self):
        for thing in ([0, 4], (0, 1), [], [True], None):
            self.refused(joined_from, STAND, thing, (5, 0))
            self.refused(stretch, STAND, thing, (5, 5))
            self.refused(who_has, STAND, thing, (99,))

    def test_a_way_of_another_tree_is_refused(self):
        for ask, names, handed_in in ASKS:
            self.refused(ask, STAND, list(range(7)), handed_in)
            self.refused(ask, ((None,), ((5,),)), [0, 1], handed_in)

    def test_what_was_handed_in_stays(self):
        for ask, names, handed_in in ASKS:
            way, kept = list(WAY), copy.deepcopy(STAND)
            ask(STAND, way, *handed_in)
            self.assertEqual((STAND, way), (kept, WAY))
            thing = [0, [1], 4]
            self.refused(ask, STAND, thing, handed_in)
            self.assertEqual(thing, [0, [1], 4])

    def test_what_was_told_is_the_askers_own(self):
        for ask, names, handed_in in ASKS:
            way = list(WAY)
            right = copy.deepcopy(ask(STAND, WAY, *handed_in))
            told = ask(STAND, way, *handed_in)
            way.append(9)
            way[0] = 8
            self.assertEqual(told, right)
            within = lists_within(told)
            self.assertEqual(len({id(each) for each in within}), len(within))
            for each in within:
                each.append(99)
                each[0] = 88
            self.assertEqual(ask(STAND, WAY, *handed_in), right)
            self.assertEqual(WAY, [0, 1, 4, 6])

    def test_the_arguments_names(self):
        for ask, names, handed_in in ASKS:
            self.assertEqual(list(inspect.signature(ask).parameters), names)


if __name__ == "__main__":
    unittest.main()
