"""Points 2, 3 and 8 to 10: colours, what is handed on, and the near ones."""

import itertools
import random
import unittest

from bridgefind.labels import labels
from bridgefind.marks import colours, handed, marks, near
from plain import SIXTY, neighbours_alike, plain_colours, plain_marks, some_entries

WORKED = [
    # worked by hand: the labels are 0, 1, 0 and so are the colours
    ([(0, 0), (1, 0), (2, 0)], [False, True, False]),
    ([(0, 0), (0, 2), (0, 3)], [False, True, False]),
    # of two the second is handed on, whatever its colour: no neighbour of it is
    ([(3, 0), (7, 1)], [False, True]),
    ([(-SIXTY, 39), (SIXTY, 39)], [False, True]),
    ([(4, 0), (4, 1)], [False, True]),
]


def lists_of_labels(length):
    """All lists of numbers from 0 to 5 with no neighbours alike."""
    return [list(numbers) for numbers in itertools.product(range(6), repeat=length)
            if not neighbours_alike(numbers)]


def lists_of_entries():
    """Entries of many sorts, from none to some hundreds."""
    chance = random.Random(21)
    lists = [[], [(0, 0)], [(-5, 63)], [(SIXTY, 1)]]
    lists.extend([(key, 0) for key in range(length)] for length in range(2, 60))
    lists.extend([(key, 3) for key in range(-length, 0)] for length in (1, 2, 3, 40, 300))
    lists.append([(key, knot) for key in range(-8, 8) for knot in range(0, 40, 3)])
    lists.append([(7, knot) for knot in range(64)])
    lists.append([(SIXTY - 299 + step, 5) for step in range(300)])
    lists.append([(-SIXTY + step, step % 64) for step in range(300)])
    for length in (2, 3, 4, 5, 6, 10, 17, 100, 300, 600):
        for far in (9, 40, 10 ** 9, SIXTY):
            lists.append(some_entries(chance, min(length, 19 * 64), far))
    return lists


class Colours(unittest.TestCase):
    def test_the_empty_list(self):
        self.assertEqual(colours([]), [])

    def test_one_number(self):
        for number, answer in ((0, 0), (1, 1), (2, 2), (3, 0), (4, 0), (5, 0)):
            with self.subTest(number=number):
                self.assertEqual(colours([number]), [answer])

    def test_worked_by_hand(self):
        for numbers, answer in (
                ([0, 3], [0, 1]), ([3, 0], [1, 0]), ([0, 3, 1], [0, 2, 1]), ([1, 3, 1], [1, 0, 1]),
                ([3, 4], [0, 1]), ([4, 3], [1, 0]), ([3, 5], [0, 1]), ([5, 3], [1, 0]),
                ([4, 5], [0, 1]), ([5, 4], [1, 0]),
                ([3, 4, 5], [0, 1, 0]), ([3, 5, 4], [0, 1, 0]), ([4, 3, 5], [1, 0, 1]),
                ([4, 5, 3], [0, 1, 0]), ([5, 3, 4], [1, 0, 1]), ([5, 4, 3], [0, 1, 0]),
                ([0, 5, 4, 3, 1], [0, 2, 1, 0, 1]), ([0, 3, 4, 5, 1], [0, 1, 0, 2, 1]),
                ([0, 4, 5, 3, 0], [0, 1, 0, 1, 0]), ([2, 5, 3, 4, 0], [2, 1, 0, 1, 0]),
                ([5, 4, 5, 3, 5, 4], [1, 0, 1, 0, 1, 0])):
            with self.subTest(numbers=numbers):
                self.assertEqual(colours(numbers), answer)

    def test_all_short_lists(self):
        for length in range(7):
            for numbers in lists_of_labels(length):
                told = colours(numbers)
                self.assertEqual(told, plain_colours(numbers), numbers)
                self.assertTrue(set(told) <= {0, 1, 2}, numbers)
                self.assertFalse(neighbours_alike(told), numbers)
                self.assertTrue(all(tint == number for tint, number in zip(told, numbers) if number < 3),
                                numbers)

    def test_long_lists(self):
        chance = random.Random(22)
        for each in range(30):
            numbers = [chance.randrange(6)]
            while len(numbers) < 400:
                numbers.append((numbers[-1] + chance.randrange(1, 6)) % 6)
            self.assertEqual(colours(numbers), plain_colours(numbers))

    def test_what_was_handed_in_stays(self):
        for numbers in ([], [5], [0, 1, 2], [3, 4, 5, 3], [5, 4, 3]):
            with self.subTest(numbers=numbers):
                kept = list(numbers)
                told = colours(numbers)
                self.assertEqual(numbers, kept)
                self.assertIs(type(told), list)
                right = list(told)
                told.append(9)
                told[0] = 9
                self.assertEqual(numbers, kept)
                self.assertEqual(colours(numbers), right)

    def test_a_later_change_of_what_was_handed_in_changes_nothing_told(self):
        numbers = [0, 1]
        told = colours(numbers)
        numbers[1] = 3
        numbers.append(0)
        self.assertEqual(told, [0, 1])
        self.assertEqual(colours(numbers), [0, 1, 0])


class Marks(unittest.TestCase):
    def test_none_and_one(self):
        self.assertEqual(marks([]), [])
        for entry in ((0, 0), (1, 39), (-1, 1), (SIXTY, 63), (-SIXTY, 0)):
            with self.subTest(entry=entry):
                self.assertEqual(marks([entry]), [False])

    def test_worked_by_hand(self):
        for entries, answer in WORKED:
            with self.subTest(entries=entries):
                self.assertEqual(marks(entries), answer)

    def test_as_the_words_say(self):
        for entries in lists_of_entries():
            self.assertEqual(marks(entries), plain_marks(entries), entries)

    def test_all_parts_of_a_short_list(self):
        pool = [(-2, 1), (-1, 0), (0, 0), (0, 1), (0, 3), (1, 0), (2, 4), (5, 0), (5, 2), (9, 9)]
        for length in range(len(pool) + 1):
            for entries in itertools.combinations(pool, length):
                self.assertEqual(marks(list(entries)), plain_marks(entries), entries)

    def test_the_lists_asked_of_have_all_labels_and_colours(self):
        seen = set()
        for entries in lists_of_entries():
            for label, tint, mark in zip(labels(entries), colours(labels(entries)), marks(entries)):
                seen.update((("label", label), ("colour", tint, mark)))
        # one of colour 2 that isn't handed on can't be: the first has the label 0 or 1
        self.assertEqual(seen, {("label", label) for label in range(6)} | {
            ("colour", 0, False), ("colour", 0, True), ("colour", 1, False), ("colour", 1, True),
            ("colour", 2, True)})

    def test_a_list_of_truths_is_told(self):
        for entries in lists_of_entries():
            told = marks(entries)
            self.assertIs(type(told), list)
            self.assertEqual(len(told), len(entries))
            self.assertTrue(all(mark is True or mark is False for mark in told))

    def test_the_first_never(self):
        for entries in lists_of_entries():
            self.assertFalse(any(marks(entries)[:1]), entries)

    def test_never_two_neighbours_never_more_than_half(self):
        for entries in lists_of_entries():
            told = marks(entries)
            self.assertFalse(any(one and other for one, other in zip(told, told[1:])), entries)
            self.assertLessEqual(2 * told.count(True), len(told))

    def test_each_but_the_first_or_a_neighbour_of_it(self):
        for entries in lists_of_entries():
            told = marks(entries)
            for at in range(1, len(told)):
                self.assertTrue(any(told[at - 1:at + 2]), (entries, at))

    def test_of_each_three_one_at_least(self):
        for entries in lists_of_entries():
            told = marks(entries)
            for at in range(len(told) - 2):
                self.assertTrue(any(told[at:at + 3]), (entries, at))

    def test_one_or_two_ahead_and_between_none_or_one_behind(self):
        for entries in lists_of_entries():
            if len(entries) < 2:
                continue
            on = [at for at, mark in enumerate(marks(entries)) if mark]
            self.assertIn(on[0], (1, 2))
            self.assertTrue(all(other - one in (2, 3) for one, other in zip(on, on[1:])), entries)
            self.assertIn(len(entries) - 1 - on[-1], (0, 1))

    def test_what_was_handed_in_stays(self):
        entries = [(-3, 1), (0, 0), (0, 2), (8, 5)]
        told = marks(entries)
        right = list(told)
        told.clear()
        self.assertEqual(entries, [(-3, 1), (0, 0), (0, 2), (8, 5)])
        self.assertEqual(marks(entries), right)

    def test_a_later_change_of_what_was_handed_in_changes_nothing_told(self):
        entries = [(3, 0), (7, 1)]
        told = marks(entries)
        entries.pop()
        self.assertEqual(told, [False, True])
        self.assertEqual(marks(entries), [False])


class Handed(unittest.TestCase):
    def test_none_one_and_two(self):
        self.assertEqual(handed([]), [])
        self.assertEqual(handed([(4, 0)]), [])
        self.assertEqual(handed([(4, 0), (4, 1)]), [(4, 1)])
        self.assertEqual(handed([(0, 0), (1, 0), (2, 0)]), [(1, 0)])

    def test_those_that_are_marked(self):
        for entries in lists_of_entries():
            told = handed(entries)
            self.assertIs(type(told), list)
            self.assertTrue(all(type(entry) is tuple for entry in told))
            self.assertEqual(told, [entry for entry, mark in zip(entries, plain_marks(entries)) if mark])
            self.assertEqual(told, sorted(told))

    def test_what_was_handed_in_stays(self):
        entries = [(-3, 1), (0, 0), (0, 2), (8, 5)]
        told = handed(entries)
        right = list(told)
        told.append((99, 9))
        told[0] = (-99, 9)
        self.assertEqual(entries, [(-3, 1), (0, 0), (0, 2), (8, 5)])
        self.assertEqual(handed(entries), right)

    def test_a_later_change_of_what_was_handed_in_changes_nothing_told(self):
        entries = [(3, 0), (7, 1)]
        told = handed(entries)
        entries.clear()
        self.assertEqual(told, [(7, 1)])
        self.assertEqual(handed(entries), [])


class Near(unittest.TestCase):
    def test_worked_by_hand(self):
        entries = [(key, 0) for key in range(20)]
        self.assertEqual(near(entries[:1], 0), (0, [(0, 0)]))
        self.assertEqual(near(entries[:3], 1), (1, [(0, 0), (1, 0), (2, 0)]))
        self.assertEqual(near(entries, 0), (0, entries[:6]))
        self.assertEqual(near(entries, 10), (10, entries[:16]))
        self.assertEqual(near(entries, 11), (10, entries[1:17]))
        self.assertEqual(near(entries, 14), (10, entries[4:20]))
        self.assertEqual(near(entries, 15), (10, entries[5:20]))
        self.assertEqual(near(entries, 19), (10, entries[9:20]))

    def test_each_place_of_short_lists(self):
        chance = random.Random(23)
        for length in range(1, 43):
            entries = some_entries(chance, length, 50)
            for at in range(length):
                ahead = [entries[other] for other in range(length) if 0 < at - other <= 10]
                behind = [entries[other] for other in range(length) if 0 < other - at <= 5]
                self.assertEqual(near(entries, at), (len(ahead), ahead + [entries[at]] + behind), (length, at))

    def test_the_kinds_told(self):
        told = near([(3, 0), (7, 1)], 1)
        self.assertIs(type(told), tuple)
        self.assertIs(type(told[0]), int)
        self.assertIs(type(told[1]), list)

    def test_what_was_handed_in_stays_and_what_was_told_is_the_askers_own(self):
        entries = [(3, 0), (7, 1), (9, 0)]
        for at in range(3):
            told = near(entries, at)
            told[1].append((99, 9))
            told[1][0] = (-99, 9)
            self.assertEqual(entries, [(3, 0), (7, 1), (9, 0)])
            self.assertEqual(near(entries, at), (at, [(3, 0), (7, 1), (9, 0)]))
        told = near(entries, 1)
        entries.clear()
        self.assertEqual(told, (1, [(3, 0), (7, 1), (9, 0)]))

    def same_marks(self, lists):
        """Tells how many entries had the near ones of another; their marks are held to be the same."""
        seen = {}
        for entries in lists:
            for at, mark in enumerate(marks(entries)):
                ahead, window = near(entries, at)
                kept = seen.setdefault((ahead, tuple(window)), mark)
                self.assertEqual(kept, mark, (entries, at))
        return sum(len(entries) for entries in lists) - len(seen)

    def test_near_ones_alike_have_the_same_mark_where_one_is_left_out(self):
        chance = random.Random(24)
        for far in (3, 60, SIXTY):
            whole = some_entries(chance, 120, far)
            lists = [whole] + [whole[:at] + whole[at + 1:] for at in range(len(whole))]
            self.assertGreater(self.same_marks(lists), 10000)

    def test_near_ones_alike_have_the_same_mark_among_others(self):
        chance = random.Random(25)
        for each in range(200):
            middle = [(key, chance.randrange(40)) for key in range(16)]
            lists = []
            for other in range(6):
                ahead = [(-900 + entry[0], entry[1]) for entry in some_entries(chance, other * other, 500)]
                behind = [(900 + entry[0], entry[1]) for entry in some_entries(chance, 25 - other, 500)]
                lists.append(ahead + middle + behind)
            self.assertGreaterEqual(self.same_marks(lists), 5)

    def test_near_ones_alike_have_the_same_mark_at_the_ends(self):
        chance = random.Random(26)
        for each in range(100):
            whole = some_entries(chance, 60, 10 ** 6)
            for cut in range(1, 60):
                # the one list ends, or begins, where the other goes on
                for at in range(max(cut - 5, 0)):
                    self.assertEqual(near(whole, at), near(whole[:cut], at))
                self.assertEqual(marks(whole)[:max(cut - 5, 0)], marks(whole[:cut])[:max(cut - 5, 0)])
                self.assertEqual(marks(whole)[cut + 10:], marks(whole[cut:])[10:])


if __name__ == "__main__":
    unittest.main()
