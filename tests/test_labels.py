"""Points 2, 6 and 7: turned lists and the labels of entries."""

import random
import unittest

from bridgefind.labels import labels, lowest_unlike, turned
from plain import SIXTY, neighbours_alike, plain_labels, plainly_turned, some_entries


def some_numbers(chance, length, bound):
    numbers = []
    while len(numbers) < length:
        number = chance.randrange(bound)
        if not numbers or numbers[-1] != number:
            numbers.append(number)
    return numbers


class LowestUnlike(unittest.TestCase):
    def both_ways(self, one, other, b):
        self.assertEqual(lowest_unlike(one, other), b)
        self.assertEqual(lowest_unlike(other, one), b)

    def test_small_numbers(self):
        for one, other, b in ((0, 1, 0), (0, 2, 1), (1, 2, 0), (1, 3, 1), (6, 4, 1), (5, 13, 3),
                              (4, 5, 0), (7, 8, 0), (12, 0, 2), (12, 8, 2), (15, 31, 4)):
            with self.subTest(one=one, other=other):
                self.both_ways(one, other, b)

    def test_all_pairs_of_small_numbers(self):
        for one in range(40):
            for other in range(40):
                if one != other:
                    b = [(one >> k) % 2 == (other >> k) % 2 for k in range(8)].index(False)
                    self.assertEqual(lowest_unlike(one, other), b, (one, other))

    def test_unlike_in_just_one_figure(self):
        for base in (0, 1, 2 ** 208 - 1, int("10" * 104, 2)):
            for b in range(209):
                with self.subTest(base=base, b=b):
                    self.both_ways(base, base ^ (1 << b), b)

    def test_unlike_in_that_figure_and_all_above(self):
        for b in range(209):
            with self.subTest(b=b):
                self.both_ways(2 ** 209 - 1, 2 ** b - 1, b)


class Turned(unittest.TestCase):
    def test_the_empty_list(self):
        self.assertEqual(turned([]), [])

    def test_one_number(self):
        for number, answer in ((0, 0), (1, 1), (2, 0), (3, 1), (2 ** 209 - 1, 1), (2 ** 208, 0)):
            with self.subTest(number=number):
                self.assertEqual(turned([number]), [answer])

    def test_two_numbers(self):
        for numbers, answer in (([0, 1], [0, 1]), ([1, 0], [1, 0]), ([0, 2], [0, 3]),
                                ([2, 0], [0, 2]), ([3, 1], [1, 2]), ([1, 3], [1, 3]),
                                ([0, 2 ** 208], [0, 417]), ([2 ** 208, 0], [0, 416])):
            with self.subTest(numbers=numbers):
                self.assertEqual(turned(numbers), answer)

    def test_longer_ones(self):
        self.assertEqual(turned([6, 4, 5]), [0, 2, 1])
        self.assertEqual(turned([0, 128, 256]), [0, 15, 14])
        self.assertEqual(turned([5, 13, 12, 8, 0, 16]), [1, 7, 0, 4, 6, 9])
        self.assertEqual(turned([3, 7, 3, 7]), [1, 5, 4, 5])

    def test_as_the_words_say(self):
        chance = random.Random(3)
        for length in (2, 3, 10, 100):
            for bound in (2, 3, 6, 10, 418, 2 ** 64, 2 ** 209):
                numbers = some_numbers(chance, length, bound)
                self.assertEqual(turned(numbers), plainly_turned(numbers), numbers)

    def test_no_neighbours_alike(self):
        chance = random.Random(4)
        for bound in (2, 3, 4, 5, 6, 8, 16, 100, 2 ** 209):
            for each in range(30):
                numbers = some_numbers(chance, 40, bound)
                told = turned(numbers)
                self.assertEqual(len(told), 40)
                self.assertFalse(neighbours_alike(told), numbers)

    def test_figures_high_up(self):
        numbers = [0]
        for b in range(208, -1, -1):
            numbers.append(numbers[-1] ^ (1 << b))
        self.assertEqual(turned(numbers), [0] + [2 * b + 1 for b in range(208, -1, -1)])

    def test_what_was_handed_in_stays(self):
        numbers = [5, 13, 12, 8]
        turned(numbers)
        self.assertEqual(numbers, [5, 13, 12, 8])

    def test_a_change_of_what_was_told_changes_no_later_answer(self):
        for numbers in ([], [1], [0, 1], [6, 4, 5]):
            with self.subTest(numbers=numbers):
                kept = list(numbers)
                told = turned(numbers)
                right = list(told)
                told.append(77)
                told[0] = 99
                self.assertEqual(numbers, kept)
                self.assertEqual(turned(numbers), right)

    def test_a_later_change_of_what_was_handed_in_changes_nothing_told(self):
        numbers = [0, 1]
        told = turned(numbers)
        numbers[0] = 3
        self.assertEqual(told, [0, 1])
        self.assertEqual(turned(numbers), [1, 2])

    def test_a_list_is_told(self):
        for numbers in ([], [4], [4, 5]):
            self.assertIs(type(turned(numbers)), list)


class Labels(unittest.TestCase):
    def check(self, entries):
        told = labels(entries)
        self.assertIs(type(told), list)
        self.assertEqual(told, plain_labels(entries))
        self.assertTrue(all(0 <= number <= 5 for number in told))
        self.assertFalse(neighbours_alike(told))

    def test_the_empty_list(self):
        self.assertEqual(labels([]), [])

    def test_one_entry(self):
        for entry, answer in (((0, 0), 0), ((0, 1), 1), ((5, 62), 0), ((-5, 63), 1), ((SIXTY, 7), 1)):
            with self.subTest(entry=entry):
                self.assertEqual(labels([entry]), [answer])

    def test_worked_by_hand(self):
        # the codes 384, 897, then 0 and 1 from the first turn on
        self.assertEqual(labels([(3, 0), (7, 1)]), [0, 1])
        # the codes 0, 128, 256, then 0, 15, 14, then 0, 1, 0
        self.assertEqual(labels([(0, 0), (1, 0), (2, 0)]), [0, 1, 0])
        # the codes 0, 2, 3, then 0, 3, 1, then 0, 1, 2, then 0, 1, 0
        self.assertEqual(labels([(0, 0), (0, 2), (0, 3)]), [0, 1, 0])

    def test_short_lists(self):
        pool = [(-1, 0), (-1, 2), (0, 0), (0, 1), (0, 3), (1, 0), (2, 4), (5, 0)]
        for chosen in range(2 ** len(pool)):
            self.check([entry for at, entry in enumerate(pool) if chosen >> at & 1])

    def test_lists_of_hundreds(self):
        chance = random.Random(6)
        for length in (200, 300, 600):
            for far in (20, 1000, 10 ** 12, SIXTY):
                self.check(some_entries(chance, length, far))

    def test_one_knot_and_rising_keys(self):
        self.check([(key, 0) for key in range(-150, 150)])
        self.check([(key * 2 ** 40, 63) for key in range(-150, 150)])

    def test_keys_of_sixty_figures(self):
        self.check([(-SIXTY, 0), (-SIXTY, 63), (-SIXTY + 1, 0), (SIXTY - 1, 63), (SIXTY, 0), (SIXTY, 63)])

    def test_fewer_or_more_turns_would_show(self):
        chance = random.Random(8)
        lists = [some_entries(chance, 300, SIXTY) for each in range(20)]
        for turns in (4, 6):
            self.assertTrue(any(labels(entries) != plain_labels(entries, turns) for entries in lists), turns)

    def test_what_was_handed_in_stays(self):
        entries = [(-3, 1), (0, 0), (0, 2), (8, 5)]
        labels(entries)
        self.assertEqual(entries, [(-3, 1), (0, 0), (0, 2), (8, 5)])

    def test_a_change_of_what_was_told_changes_no_later_answer(self):
        entries = [(0, 0), (1, 0), (2, 0)]
        told = labels(entries)
        told[0] = 9
        told.append(9)
        self.assertEqual(entries, [(0, 0), (1, 0), (2, 0)])
        self.assertEqual(labels(entries), [0, 1, 0])

    def test_a_later_change_of_what_was_handed_in_changes_nothing_told(self):
        entries = [(0, 0), (1, 0), (2, 0)]
        told = labels(entries)
        entries.clear()
        self.assertEqual(told, [0, 1, 0])
        self.assertEqual(labels(entries), [])


if __name__ == "__main__":
    unittest.main()
