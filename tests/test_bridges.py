"""Points 2 and 16: bridges."""

import copy
import random
import unittest

from bridgefind.bridges import bridges
from plain import chain, lists_within, plain_bridges, some_stands

STANDS = some_stands(random.Random(51))


def numbers_within(thing):
    if not isinstance(thing, (list, tuple)):
        return [thing]
    return [number for part in thing for number in numbers_within(part)]


class Bridges(unittest.TestCase):
    def test_one_knot(self):
        self.assertEqual(bridges(((None,), ((),))), [(0, [0], [])])
        self.assertEqual(bridges(((None,), ((7,),))), [(1, [0, 1], [])])
        self.assertEqual(bridges(((None,), ((-9, 7, 8),))), [(3, [0, 1, 2, 3], [])])

    def test_empty_rows(self):
        self.assertEqual(bridges(((None, 0, 0, 1), ((),) * 4)), [
            (0, [0], [(1, [0]), (2, [0])]), (0, [0], [(3, [0])]), (0, [0], []), (0, [0], [])])

    def test_worked_by_hand(self):
        # the full rows: (7, 2); (5, 1), (7, 2); (3, 2), (7, 2)
        self.assertEqual(bridges(((None, 0, 1), ((), (5,), (3, 7)))), [
            (1, [0, 0], [(1, [0, 2])]), (2, [0, 1, 1], [(2, [0, 0, 2])]), (2, [0, 1, 2], [])])
        # the full rows: (4, 0), (6, 1), (6, 2); (4, 1), (6, 1); (4, 2), (6, 2)
        self.assertEqual(bridges(((None, 0, 0), ((4,), (4, 6), (4, 6)))), [
            (3, [0, 1, 1, 1], [(1, [0, 0, 2, 2]), (2, [0, 0, 0, 2])]), (2, [0, 1, 2], []), (2, [0, 1, 2], [])])
        # a child that hands nothing on
        self.assertEqual(bridges(((None, 0), ((1, 3), (2,)))), [
            (2, [0, 1, 2], [(1, [0, 0, 0])]), (1, [0, 1], [])])
        # what comes from beneath a child counts as handed on by the child, and is none of its own
        self.assertEqual(bridges(((None, 0, 1), ((), (5,), (3, 7))))[0][2], [(1, [0, 2])])

    def test_a_chain_with_a_single_key_at_the_far_end(self):
        told = bridges((chain(40), ((),) * 39 + ((7,),)))
        self.assertEqual(told, [(0, [0], [(knot + 1, [0])]) for knot in range(39)] + [(1, [0, 1], [])])

    def test_as_the_words_say(self):
        for stand in STANDS:
            self.assertEqual(bridges(stand), plain_bridges(stand), stand)

    def test_the_kinds_told(self):
        for stand in STANDS[::5]:
            told = bridges(stand)
            self.assertIs(type(told), list)
            self.assertEqual(len(told), len(stand[0]))
            for bridge in told:
                self.assertIs(type(bridge), tuple)
                length, owns, jumps = bridge
                self.assertIs(type(length), int)
                self.assertEqual((type(owns), len(owns)), (list, length + 1))
                self.assertIs(type(jumps), list)
                for jump in jumps:
                    self.assertIs(type(jump), tuple)
                    child, starts = jump
                    self.assertIs(type(child), int)
                    self.assertEqual((type(starts), len(starts)), (list, length + 1))

    def test_no_key_stands_in_it(self):
        for stand in STANDS[::3]:
            far = (stand[0], tuple(tuple(key + 10 ** 40 for key in row) for row in stand[1]))
            numbers = numbers_within(bridges(far))
            self.assertTrue(all(type(number) is int and 0 <= number <= 600 for number in numbers))

    def test_what_was_told_is_the_askers_own(self):
        for stand in STANDS[::9]:
            kept = copy.deepcopy(stand)
            told = bridges(stand)
            right = copy.deepcopy(told)
            within = lists_within(told)
            self.assertEqual(len({id(each) for each in within}), len(within))
            for each in within:
                each.append(99)
                each[0] = 88
            self.assertEqual(stand, kept)
            self.assertEqual(bridges(stand), right)


if __name__ == "__main__":
    unittest.main()
