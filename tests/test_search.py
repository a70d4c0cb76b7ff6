"""Points 2, 3 and 17: searches down a way and beneath a knot, and what they ask."""

import copy
import inspect
import random
import unittest

from bridgefind.bridges import bridges
from bridgefind.search import search, search_beneath
from plain import (SIXTY, all_ways, broom, chain, keys_about, plain_beneath, plain_bridges, plain_full_rows,
                   plain_places, small_stands, some_keys_about, some_rows, some_stands, some_ways)

STANDS = some_stands(random.Random(61))
SMALL = small_stands(random.Random(62))
EMPTY_BETWEEN = (chain(5), ((), (3, 5, 9), (), (4, 5), ()))
SIDE_BY_SIDE = ((None, 0, 0), ((4,), (4, 6), (4, 6)))


class Asker:
    """Whether entries are below a key, with all that was asked kept."""

    def __init__(self, fulls, key):
        self.fulls = fulls
        self.key = key
        self.asked = []

    def is_below(self, knot, at):
        self.asked.append((knot, at))
        if type(knot) is not int or type(at) is not int or not 0 <= at < len(self.fulls[knot]):
            raise LookupError("asked of a knot or a number that isn't there")
        return self.fulls[knot][at][0] < self.key

    def asked_of(self, knot):
        return [at for other, at in self.asked if other == knot]


class Searched(unittest.TestCase):
    def asked_rightly(self, asker, spans, first, pairs, places):
        """Pairs are (parent, child), for all knots that are searched but the first."""
        self.assertEqual(len(set(asker.asked)), len(asker.asked))
        self.assertLessEqual({knot for knot, at in asker.asked}, {first} | {child for parent, child in pairs})
        figures = bin(len(asker.fulls[first]))[2:].lstrip("0")
        self.assertLessEqual(len(asker.asked_of(first)), len(figures))
        for parent, child in pairs:
            start = dict(spans[parent][2])[child][places[parent][0]]
            self.assertLessEqual(set(asker.asked_of(child)), {start, start + 1})


class DownAWay(Searched):
    def held(self, stand, keys, ways):
        fulls = plain_full_rows(stand)
        spans = plain_bridges(stand)
        handed_in = bridges(stand)
        for key in keys:
            places = plain_places(fulls, stand[1], key)
            for way in ways:
                asker = Asker(fulls, key)
                told = search(handed_in, way, asker.is_below)
                self.assertEqual(told, [places[knot] for knot in way], (stand, way, key))
                self.asked_rightly(asker, spans, way[0], list(zip(way, way[1:])), places)
        self.assertEqual(handed_in, spans)

    def test_one_knot_with_an_empty_row(self):
        asker = Asker([[]], 7)
        self.assertEqual(search([(0, [0], [])], [0], asker.is_below), [(0, 0)])
        self.assertEqual(asker.asked, [])

    def test_one_knot_with_one_key(self):
        for key, told in ((6, [(0, 0)]), (7, [(0, 0)]), (8, [(1, 1)])):
            asker = Asker([[(7, 0)]], key)
            self.assertEqual(search([(1, [0, 1], [])], [0], asker.is_below), told)
            self.assertEqual(asker.asked, [(0, 0)])

    def test_worked_by_hand(self):
        # the full rows: (7, 2); (5, 1), (7, 2); (3, 2), (7, 2)
        stand = ((None, 0, 1), ((), (5,), (3, 7)))
        fulls = [[(7, 2)], [(5, 1), (7, 2)], [(3, 2), (7, 2)]]
        for key, told in ((2, [(0, 0), (0, 0), (0, 0)]), (3, [(0, 0), (0, 0), (0, 0)]),
                          (4, [(0, 0), (0, 0), (1, 1)]), (5, [(0, 0), (0, 0), (1, 1)]),
                          (6, [(0, 0), (1, 1), (1, 1)]), (7, [(0, 0), (1, 1), (1, 1)]),
                          (8, [(1, 0), (2, 1), (2, 2)])):
            with self.subTest(key=key):
                self.assertEqual(search(bridges(stand), [0, 1, 2], Asker(fulls, key).is_below), told)
                self.assertEqual(search(bridges(stand), [1, 2], Asker(fulls, key).is_below), told[1:])
                self.assertEqual(search(bridges(stand), [2], Asker(fulls, key).is_below), told[2:])

    def test_what_is_asked_by_hand(self):
        stand = ((None, 0, 1), ((), (5,), (3, 7)))
        fulls = [[(7, 2)], [(5, 1), (7, 2)], [(3, 2), (7, 2)]]
        asker = Asker(fulls, 6)
        search(bridges(stand), [0, 1, 2], asker.is_below)
        # the starts are 0 and 0: of each knot behind the first both entries are asked
        self.assertEqual(sorted(asker.asked), [(0, 0), (1, 0), (1, 1), (2, 0), (2, 1)])
        asker = Asker(fulls, 8)
        search(bridges(stand), [0, 1, 2], asker.is_below)
        # the starts are 2 and 2, the lengths themselves: nothing is left to be asked
        self.assertEqual(asker.asked, [(0, 0)])

    def test_a_child_that_is_not_the_first(self):
        self.held(SIDE_BY_SIDE, keys_about(SIDE_BY_SIDE), all_ways(SIDE_BY_SIDE[0]))

    def test_the_last_child_of_many(self):
        stand = (broom(40), tuple(tuple(range(knot % 7, 40, 6)) for knot in range(40)))
        self.held(stand, range(-1, 42), [[0, 1], [0, 20], [0, 39], [39]])

    def test_empty_full_rows(self):
        for many in (1, 2, 40):
            stand = (chain(many), ((),) * many)
            self.held(stand, (-SIXTY, 0, 5, SIXTY), all_ways(chain(many)))
        self.held(EMPTY_BETWEEN, keys_about(EMPTY_BETWEEN), all_ways(chain(5)))

    def test_a_full_row_that_hands_nothing_on(self):
        stand = (chain(40), ((),) * 39 + ((7,),))
        self.held(stand, keys_about(stand), all_ways(chain(40)))

    def test_every_way_and_every_key_of_small_stands(self):
        for stand in SMALL:
            self.held(stand, keys_about(stand), all_ways(stand[0]))

    def test_some_ways_and_keys_of_many_stands(self):
        chance = random.Random(63)
        for stand in STANDS:
            self.held(stand, some_keys_about(chance, stand, 12), some_ways(chance, stand[0], 3))

    def test_the_first_full_row_of_each_length(self):
        for length in range(70):
            stand = ((None,), (tuple(range(0, 2 * length, 2)),))
            self.held(stand, range(-1, 2 * length + 1), [[0]])
        for length in (127, 128, 255, 256, 300):
            stand = ((None,), (tuple(range(length)),))
            self.held(stand, range(-1, length + 2), [[0]])

    def test_whoever_keeps_the_count_sees_it(self):
        stand = (chain(40), tuple(tuple(range(knot % 3, 21, 3)) for knot in range(40)))
        lengths = [bridge[0] for bridge in bridges(stand)]
        fulls = plain_full_rows(stand)
        most = 0
        for key in range(-1, 23):
            asker = Asker(fulls, key)
            search(bridges(stand), list(range(40)), asker.is_below)
            self.assertLessEqual(len(asker.asked), lengths[0].bit_length() + 2 * 39)
            most = max(most, len(asker.asked))
        self.assertGreater(most, 39)

    def test_a_function_that_tells_the_same_of_all(self):
        for stand in STANDS[::7]:
            for way in all_ways(stand[0])[::11]:
                self.assertEqual(search(bridges(stand), way, lambda knot, at: False), [(0, 0)] * len(way))
                fulls = plain_full_rows(stand)
                self.assertEqual(search(bridges(stand), way, lambda knot, at: True),
                                 [(len(fulls[knot]), len(stand[1][knot])) for knot in way])

    def test_the_kinds_told(self):
        for stand in STANDS[::6]:
            asker = Asker(plain_full_rows(stand), 3)
            told = search(bridges(stand), max(all_ways(stand[0]), key=len), asker.is_below)
            self.assertIs(type(told), list)
            for pair in told:
                self.assertIs(type(pair), tuple)
                self.assertEqual([type(number) for number in pair], [int, int])

    def test_what_was_handed_in_stays(self):
        for stand in STANDS[::9]:
            spans = bridges(stand)
            way = max(all_ways(stand[0]), key=len)
            kept, kept_way = copy.deepcopy(spans), list(way)
            search(spans, way, Asker(plain_full_rows(stand), 4).is_below)
            self.assertEqual((spans, way), (kept, kept_way))

    def test_what_was_told_is_the_askers_own(self):
        fulls = plain_full_rows(EMPTY_BETWEEN)
        spans = bridges(EMPTY_BETWEEN)
        way = [1, 2, 3]
        told = search(spans, way, Asker(fulls, 5).is_below)
        right = list(told)
        told[0] = (9, 9)
        told.append((8, 8))
        other = search(spans, way, Asker(fulls, 5).is_below)
        self.assertEqual(other, right)
        # and nothing done behind a call to what was handed in changes what was told
        way.clear()
        for length, owns, jumps in spans:
            owns.clear()
            jumps.clear()
        spans.clear()
        self.assertEqual(other, right)

    def test_the_arguments_names(self):
        self.assertEqual(list(inspect.signature(search).parameters), ["bridges", "way", "is_below"])


class BeneathAKnot(Searched):
    def held(self, stand, keys, knots):
        fulls = plain_full_rows(stand)
        spans = plain_bridges(stand)
        handed_in = bridges(stand)
        for key in keys:
            places = plain_places(fulls, stand[1], key)
            for knot in knots:
                under = plain_beneath(stand[0], knot)
                asker = Asker(fulls, key)
                told = search_beneath(handed_in, knot, asker.is_below)
                self.assertEqual(told, [(each,) + places[each] for each in under], (stand, knot, key))
                pairs = [(stand[0][each], each) for each in under if each != knot]
                self.asked_rightly(asker, spans, knot, pairs, places)
        self.assertEqual(handed_in, spans)

    def test_one_knot(self):
        asker = Asker([[]], 7)
        self.assertEqual(search_beneath([(0, [0], [])], 0, asker.is_below), [(0, 0, 0)])
        self.assertEqual(asker.asked, [])
        for key, told in ((7, [(0, 0, 0)]), (8, [(0, 1, 1)])):
            asker = Asker([[(7, 0)]], key)
            self.assertEqual(search_beneath([(1, [0, 1], [])], 0, asker.is_below), told)
            self.assertEqual(asker.asked, [(0, 0)])

    def test_worked_by_hand(self):
        # the full rows: (4, 0), (6, 1), (6, 2); (4, 1), (6, 1); (4, 2), (6, 2)
        fulls = [[(4, 0), (6, 1), (6, 2)], [(4, 1), (6, 1)], [(4, 2), (6, 2)]]
        for key, told in ((4, [(0, 0, 0), (1, 0, 0), (2, 0, 0)]), (5, [(0, 1, 1), (1, 1, 1), (2, 1, 1)]),
                          (6, [(0, 1, 1), (1, 1, 1), (2, 1, 1)]), (7, [(0, 3, 1), (1, 2, 2), (2, 2, 2)])):
            with self.subTest(key=key):
                spans = bridges(SIDE_BY_SIDE)
                self.assertEqual(search_beneath(spans, 0, Asker(fulls, key).is_below), told)
                self.assertEqual(search_beneath(spans, 1, Asker(fulls, key).is_below), told[1:2])
                self.assertEqual(search_beneath(spans, 2, Asker(fulls, key).is_below), told[2:])

    def test_rising_by_knots(self):
        # 5 is met under 1 ahead of 3 and 4, which lie under 2
        stand = ((None, 0, 0, 2, 2, 1), ((1, 5), (2, 5), (3, 5), (4, 5), (5, 6), (0, 7)))
        self.held(stand, range(-1, 9), range(6))
        told = search_beneath(bridges(stand), 0, lambda knot, at: False)
        self.assertEqual([each[0] for each in told], [0, 1, 2, 3, 4, 5])

    def test_chains_and_brooms(self):
        chance = random.Random(64)
        for tree in (chain(2), chain(13), chain(40), broom(2), broom(13), broom(40)):
            for many, far in ((0, 9), (9, 5), (150, 40), (300, SIXTY)):
                stand = (tree, some_rows(chance, tree, many, far))
                self.held(stand, some_keys_about(chance, stand, 9), range(len(tree)))

    def test_every_knot_and_every_key_of_small_stands(self):
        for stand in SMALL:
            self.held(stand, keys_about(stand), range(len(stand[0])))

    def test_many_stands(self):
        chance = random.Random(66)
        for stand in STANDS:
            knots = sorted({0, len(stand[0]) - 1, chance.randrange(len(stand[0]))})
            self.held(stand, some_keys_about(chance, stand, 6), knots)

    def test_the_kinds_told(self):
        for stand in STANDS[::6]:
            told = search_beneath(bridges(stand), 0, Asker(plain_full_rows(stand), 3).is_below)
            self.assertIs(type(told), list)
            for each in told:
                self.assertIs(type(each), tuple)
                self.assertEqual([type(number) for number in each], [int, int, int])

    def test_what_was_handed_in_stays_and_what_was_told_is_the_askers_own(self):
        for stand in STANDS[::9]:
            spans = bridges(stand)
            kept = copy.deepcopy(spans)
            asker = Asker(plain_full_rows(stand), 4)
            told = search_beneath(spans, 0, asker.is_below)
            right = list(told)
            self.assertEqual(spans, kept)
            told[0] = (9, 9, 9)
            told.append((8, 8, 8))
            self.assertEqual(spans, kept)
            self.assertEqual(search_beneath(spans, 0, asker.is_below), right)

    def test_the_arguments_names(self):
        self.assertEqual(list(inspect.signature(search_beneath).parameters), ["bridges", "knot", "is_below"])


if __name__ == "__main__":
    unittest.main()
