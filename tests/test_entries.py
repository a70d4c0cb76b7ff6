"""Points 2, 4 and 5: keys, codes, places, lists joined."""

import copy
import random
import unittest

from bridgefind.entries import code, how_many_below, is_key, joined_up, place, place_in

SIXTY = int("9" * 60)
SIXTY_ONE = int("1" + "0" * 60)


class IsKey(unittest.TestCase):
    def tells(self, thing, answer):
        self.assertIs(is_key(thing), answer)

    def test_whole_numbers(self):
        for thing in (0, 1, -1, 7, -7, 63, 64, 10 ** 59, -(10 ** 59), 2 ** 64, -(2 ** 64)):
            with self.subTest(thing=thing):
                self.tells(thing, True)

    def test_sixty_figures_either_way(self):
        self.tells(SIXTY, True)
        self.tells(-SIXTY, True)

    def test_sixty_one_figures_either_way(self):
        for thing in (SIXTY_ONE, -SIXTY_ONE, int("9" * 61), -int("9" * 61)):
            with self.subTest(thing=thing):
                self.tells(thing, False)

    def test_very_long_numbers(self):
        self.tells(10 ** 6000, False)
        self.tells(-(10 ** 6000), False)

    def test_truths_are_none(self):
        self.tells(True, False)
        self.tells(False, False)

    def test_things_of_other_kinds(self):
        things = (None, "", "3", "-3", [], [3], (), (3,), (3, 0), {}, {3: 3}, {3}, 3.0, 0.0,
                  float("nan"), float("inf"), 3j, b"3", object(), int, len, range(3))
        for thing in things:
            with self.subTest(thing=thing):
                self.tells(thing, False)

    def test_a_list_stays(self):
        thing = [[3], 4]
        is_key(thing)
        self.assertEqual(thing, [[3], 4])


class Code(unittest.TestCase):
    def test_keys_from_0_on(self):
        for entry, number in (((0, 0), 0), ((0, 1), 1), ((0, 63), 63), ((1, 0), 128),
                              ((1, 63), 191), ((2, 5), 261), ((3, 7), 391)):
            with self.subTest(entry=entry):
                self.assertEqual(code(entry), number)

    def test_keys_below_0(self):
        for entry, number in (((-1, 0), 64), ((-1, 63), 127), ((-2, 0), 192), ((-2, 9), 201),
                              ((-3, 1), 321)):
            with self.subTest(entry=entry):
                self.assertEqual(code(entry), number)

    def test_sixty_figures_either_way(self):
        self.assertEqual(code((SIXTY, 0)), 128 * SIXTY)
        self.assertEqual(code((SIXTY, 63)), 128 * SIXTY + 63)
        self.assertEqual(code((-SIXTY, 0)), 128 * SIXTY - 64)
        self.assertEqual(code((-SIXTY, 63)), 128 * SIXTY - 1)

    def test_unlike_entries_have_unlike_codes_within_bounds(self):
        keys = list(range(-40, 41))
        for far in (10 ** 20, 10 ** 59, SIXTY - 2):
            keys.extend(sign * (far + step) for sign in (1, -1) for step in (0, 1, 2))
        codes = [code((key, knot)) for key in keys for knot in range(64)]
        self.assertEqual(len(set(codes)), len(keys) * 64)
        self.assertTrue(all(0 <= number < 2 ** 207 for number in codes))

    def test_small_codes_leave_no_gap(self):
        codes = sorted(code((key, knot)) for key in range(-5, 5) for knot in range(64))
        self.assertEqual(codes, list(range(640)))


class Place(unittest.TestCase):
    def test_empty_row(self):
        for key in (-SIXTY, -1, 0, 1, SIXTY):
            self.assertEqual(place((), key), 0)

    def test_ahead_there_between_behind(self):
        row = (-4, 0, 3, 7, 100)
        for key, answer in ((-5, 0), (-4, 0), (-3, 1), (0, 1), (1, 2), (3, 2), (4, 3), (7, 3),
                            (8, 4), (99, 4), (100, 4), (101, 5), (-SIXTY, 0), (SIXTY, 5)):
            with self.subTest(key=key):
                self.assertEqual(place(row, key), answer)

    def test_sixty_figures(self):
        row = (-SIXTY, -SIXTY + 1, SIXTY - 1, SIXTY)
        for key, answer in ((-SIXTY, 0), (-SIXTY + 1, 1), (0, 2), (SIXTY - 1, 2), (SIXTY, 3)):
            with self.subTest(key=key):
                self.assertEqual(place(row, key), answer)

    def test_every_length_and_key(self):
        for length in range(20):
            row = tuple(range(0, 2 * length, 2))
            for key in range(-1, 2 * length + 1):
                with self.subTest(length=length, key=key):
                    self.assertEqual(place(row, key), len([own for own in row if own < key]))


class PlaceIn(unittest.TestCase):
    def test_no_entries(self):
        for key in (-SIXTY, -1, 0, 1, SIXTY):
            self.assertEqual(place_in([], key), 0)

    def test_ahead_there_between_behind(self):
        entries = [(-4, 2), (0, 0), (3, 63), (7, 1)]
        for key, answer in ((-5, 0), (-4, 0), (-3, 1), (0, 1), (1, 2), (3, 2), (4, 3), (7, 3),
                            (8, 4), (-SIXTY, 0), (SIXTY, 4)):
            with self.subTest(key=key):
                self.assertEqual(place_in(entries, key), answer)

    def test_one_key_at_several_knots(self):
        entries = [(1, 5), (4, 0), (4, 1), (4, 63), (6, 0), (6, 2)]
        for key, answer in ((1, 0), (2, 1), (4, 1), (5, 4), (6, 4), (7, 6)):
            with self.subTest(key=key):
                self.assertEqual(place_in(entries, key), answer)

    def test_all_of_one_key(self):
        entries = [(9, knot) for knot in range(64)]
        self.assertEqual([place_in(entries, key) for key in (8, 9, 10)], [0, 0, 64])

    def test_long_lists(self):
        chance = random.Random(5)
        for length in (1, 2, 3, 17, 64, 300, 601):
            entries = sorted({(chance.randrange(-90, 90), chance.randrange(64))
                              for each in range(length)})
            for key in range(-92, 93):
                count = len([entry for entry in entries if entry[0] < key])
                self.assertEqual(place_in(entries, key), count, (length, key))

    def test_what_was_handed_in_stays(self):
        entries = [(1, 5), (4, 0), (4, 1)]
        kept = copy.deepcopy(entries)
        for key in range(7):
            place_in(entries, key)
        self.assertEqual(entries, kept)

    def test_a_later_change_of_the_list_is_seen(self):
        entries = [(1, 5), (4, 0)]
        self.assertEqual(place_in(entries, 9), 2)
        entries.append((5, 0))
        self.assertEqual(place_in(entries, 9), 3)


class HowManyBelow(unittest.TestCase):
    def test_looks_at_few_and_at_none_twice(self):
        for length in range(70):
            for answer in range(length + 1):
                asked = []

                def is_below(at):
                    asked.append(at)
                    return at < answer

                self.assertEqual(how_many_below(length, is_below), answer)
                self.assertLessEqual(len(asked), length.bit_length())
                self.assertEqual(len(set(asked)), len(asked))
                self.assertTrue(all(0 <= at < length for at in asked))


class JoinedUp(unittest.TestCase):
    def test_no_lists(self):
        self.assertEqual(joined_up([]), [])

    def test_lists_without_entries(self):
        self.assertEqual(joined_up([[]]), [])
        self.assertEqual(joined_up([[], [], []]), [])
        self.assertEqual(joined_up([[], [(2, 1)], []]), [(2, 1)])

    def test_one_behind_the_other(self):
        self.assertEqual(joined_up([[(5, 0), (6, 0)], [(-3, 1)]]), [(-3, 1), (5, 0), (6, 0)])

    def test_lists_that_interleave(self):
        lists = [[(1, 0), (4, 0), (9, 0)], [(-2, 1), (4, 1), (8, 1)], [(0, 2), (4, 2), (10, 2)]]
        self.assertEqual(joined_up(lists), [(-2, 1), (0, 2), (1, 0), (4, 0), (4, 1), (4, 2),
                                            (8, 1), (9, 0), (10, 2)])

    def test_one_key_is_ordered_by_knot(self):
        self.assertEqual(joined_up([[(4, 63)], [(4, 10)], [(4, 9)]]), [(4, 9), (4, 10), (4, 63)])

    def test_far_keys(self):
        lists = [[(-SIXTY, 1), (SIXTY, 1)], [(-SIXTY, 0), (0, 0), (SIXTY - 1, 0)]]
        self.assertEqual(joined_up(lists), [(-SIXTY, 0), (-SIXTY, 1), (0, 0), (SIXTY - 1, 0), (SIXTY, 1)])

    def test_any_parting_joins_to_the_whole(self):
        chance = random.Random(11)
        for parts in (1, 2, 3, 8):
            whole = sorted({(chance.randrange(-50, 50), chance.randrange(64)) for each in range(400)})
            lists = [[] for each in range(parts)]
            for entry in whole:
                lists[chance.randrange(parts)].append(entry)
            self.assertEqual(joined_up(lists), whole)

    def test_a_list_of_tuples_is_told(self):
        told = joined_up([[(3, 0)], [(1, 1)]])
        self.assertIs(type(told), list)
        self.assertTrue(all(type(entry) is tuple for entry in told))

    def test_what_was_handed_in_stays(self):
        lists = [[(1, 0), (4, 0)], [], [(-2, 1), (4, 1)]]
        kept = copy.deepcopy(lists)
        joined_up(lists)
        self.assertEqual(lists, kept)

    def test_a_change_of_what_was_told_changes_nothing(self):
        for lists in ([[(1, 0), (4, 0)]], [[(1, 0), (4, 0)], []], [[], [(1, 0)], [(4, 0)]], []):
            with self.subTest(lists=lists):
                kept = copy.deepcopy(lists)
                told = joined_up(lists)
                right = list(told)
                told.append((99, 9))
                told.insert(0, (-99, 9))
                self.assertEqual(lists, kept)
                self.assertEqual(joined_up(lists), right)

    def test_a_later_change_of_what_was_handed_in_changes_nothing_told(self):
        lists = [[(1, 0), (4, 0)]]
        told = joined_up(lists)
        lists[0].clear()
        lists.append([(7, 7)])
        self.assertEqual(told, [(1, 0), (4, 0)])
        self.assertEqual(joined_up(lists), [(7, 7)])


if __name__ == "__main__":
    unittest.main()
