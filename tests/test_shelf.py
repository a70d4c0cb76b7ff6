"""Points 2, 3, 12 and 21 to 23: shelves."""

import copy
import inspect
import itertools
import random
import unittest

from bridgefind.errors import BridgeError, Missing, NoKey, NoKnot, NoRoom, NoWay, Twice
from bridgefind.shelf import Shelf
from plain import (LONG, NO_NUMBERS, SIXTY, STAND, TREE, WAY, all_ways, broom, chain, is_stand, keys_about,
                   lists_within, no_ways, plain_deed, plain_full_rows, plain_hang, plain_out, plain_places, plain_put,
                   small_stands, some_keys_about, some_rows, some_stands, some_tree, some_trees, some_ways, ways_up)

# the full rows: (7, 2); (5, 1), (7, 2); (3, 2), (7, 2)
LITTLE = ((None, 0, 1), ((), (5,), (3, 7)))
NO_KNOTS_OF_TREE = NO_NUMBERS + (-1, -7, 7, 8, 40, SIXTY, -SIXTY, LONG, -LONG)
NO_KEYS = NO_NUMBERS + (SIXTY + 1, -SIXTY - 1, LONG, -LONG)


def state_of(shelf):
    """All that a shelf tells of itself."""
    stand = shelf.stand()
    return stand, [shelf.full(knot) for knot in range(len(stand[0]))]


def full_stand(tree):
    """300 keys, shared out to the knots by turns."""
    return (tree, tuple(tuple(range(knot, 300, len(tree))) for knot in range(len(tree))))


class Held(unittest.TestCase):
    """Deeds of a shelf, each held against the stand ahead of it and behind it, laid anew."""

    def held(self, shelf, stand):
        fulls = plain_full_rows(stand)
        self.assertEqual(state_of(shelf), (stand, fulls))
        self.assertTrue(is_stand(shelf.stand()))

    def told_rightly(self, told, before, after, knot):
        self.assertEqual(told, plain_deed(before, after, knot), (before, after, knot))
        self.assertIs(type(told), list)
        for each in told:
            self.assertEqual([type(part) for part in each], [int, list, list])
            self.assertTrue(all(type(entry) is tuple for entry in each[1] + each[2]))

    def deed(self, shelf, knot, key):
        """The key is put in where the row hasn't it, else taken out."""
        before = shelf.stand()
        if key in before[1][knot]:
            told, after = shelf.out(knot, key), plain_out(before, knot, key)
            self.assertIn((key, knot), told[0][1])
        else:
            told, after = shelf.put(knot, key), plain_put(before, knot, key)
            self.assertIn((key, knot), told[0][2])
        self.told_rightly(told, before, after, knot)
        self.held(shelf, after)
        return told

    def refused(self, error, shelf, ask, *handed_in):
        before = state_of(shelf)
        with self.assertRaises(BridgeError) as caught:
            ask(*handed_in)
        self.assertIs(type(caught.exception), error)
        self.assertEqual(state_of(shelf), before)


class Deeds(Held):
    def test_worked_by_hand(self):
        shelf = Shelf(LITTLE)
        self.assertEqual(shelf.out(2, 7), [(2, [(7, 2)], []), (1, [(7, 2)], []), (0, [(7, 2)], [])])
        self.assertEqual(state_of(shelf), (((None, 0, 1), ((), (5,), (3,))), [[], [(5, 1)], [(3, 2)]]))
        # of one entry none is handed on, so nothing changes above
        self.assertEqual(shelf.out(2, 3), [(2, [(3, 2)], [])])
        self.assertEqual(state_of(shelf), (((None, 0, 1), ((), (5,), ())), [[], [(5, 1)], []]))
        self.assertEqual(shelf.put(2, 3), [(2, [], [(3, 2)])])
        self.assertEqual(shelf.put(0, -1), [(0, [], [(-1, 0)])])
        self.assertEqual(shelf.put(2, 7), [(2, [], [(7, 2)]), (1, [], [(7, 2)]), (0, [], [(7, 2)])])
        # the codes 130, 386, 898 become 0, 17, 19, then 0, 1, 3; the colours are 0, 1, 0, so (3, 2) is handed on
        self.assertEqual(shelf.put(2, 1), [(2, [], [(1, 2)]), (1, [(7, 2)], [(3, 2)]), (0, [(7, 2)], [(5, 1)])])
        self.assertEqual(state_of(shelf), (((None, 0, 1), ((-1,), (5,), (1, 3, 7))),
                                           [[(-1, 0), (5, 1)], [(3, 2), (5, 1)], [(1, 2), (3, 2), (7, 2)]]))

    def test_each_deed_of_small_stands_and_back(self):
        for stand in small_stands(random.Random(91)) + [STAND, LITTLE]:
            for knot in range(len(stand[0])):
                for key in keys_about(stand):
                    shelf = Shelf(stand)
                    there = self.deed(shelf, knot, key)
                    back = self.deed(shelf, knot, key)
                    self.assertEqual(back, [(at, come, gone) for at, gone, come in there])
                    self.held(shelf, stand)

    def test_some_deeds_of_many_stands_and_back(self):
        chance = random.Random(92)
        stands = [stand for stand in some_stands(chance) if sum(len(row) for row in stand[1]) < 300]
        for stand in stands:
            for key in some_keys_about(chance, stand, 6):
                shelf = Shelf(stand)
                knot = chance.randrange(len(stand[0]))
                there = self.deed(shelf, knot, key)
                self.assertEqual(self.deed(shelf, knot, key), [(at, come, gone) for at, gone, come in there])
                self.held(shelf, stand)

    def run_of_deeds(self, chance, tree, many, far):
        shelf = Shelf((tree, ((),) * len(tree)))
        told = []
        for each in range(many):
            told.append(self.deed(shelf, chance.randrange(len(tree)), chance.randint(-far, far)))
        return told

    def test_runs_of_deeds_from_empty_rows_on(self):
        chance = random.Random(93)
        for tree in some_trees(chance):
            for many, far in ((60, 4), (60, 100), (40, SIXTY)):
                self.run_of_deeds(chance, tree, many, far)

    def test_deeds_reach_far_up_and_entries_go_and_come(self):
        told = self.run_of_deeds(random.Random(94), chain(6), 300, 60)
        self.assertTrue(any(len(deed) == 6 for deed in told))
        changes = [change for deed in told for change in deed]
        # what came to a row may drive others out of the full row above it, by a put and by an out alike
        self.assertTrue(any(change[1] and change[2] for change in changes))
        self.assertTrue(any(len(change[1]) > 1 for change in changes))
        self.assertTrue(any(len(change[2]) > 1 for change in changes))
        self.assertTrue(any(deed[-1][0] > 0 for deed in told))

    def test_a_deed_at_the_end_of_a_chain_of_forty(self):
        stand = (chain(40), ((),) * 39 + (tuple(range(0, 400, 2)),))
        shelf = Shelf(stand)
        for key in range(-1, 60, 7):
            self.deed(shelf, 39, key)

    def test_whatever_the_order_the_full_rows_are_those_laid_anew(self):
        keys = ((0, 4), (1, 2), (2, 1), (2, 3), (2, 6))
        stand = ((None, 0, 1), ((4,), (2,), (1, 3, 6)))
        for order in itertools.permutations(keys):
            shelf = Shelf(((None, 0, 1), ((),) * 3))
            for knot, key in order:
                shelf.put(knot, key)
            self.held(shelf, stand)
            for knot, key in order:
                shelf.out(knot, key)
            self.held(shelf, ((None, 0, 1), ((),) * 3))

    def test_all_keys_put_in_and_all_taken_out(self):
        chance = random.Random(95)
        for tree in (chain(40), broom(40), some_tree(chance, 17)):
            stand = full_stand(tree)
            keys = [(knot, key) for knot, row in enumerate(stand[1]) for key in row]
            chance.shuffle(keys)
            shelf = Shelf((tree, ((),) * len(tree)))
            for knot, key in keys:
                shelf.put(knot, key)
            self.held(shelf, stand)
            chance.shuffle(keys)
            for knot, key in keys:
                shelf.out(knot, key)
            self.held(shelf, (tree, ((),) * len(tree)))

    def test_keys_of_sixty_figures(self):
        shelf = Shelf(STAND)
        for key in (SIXTY, -SIXTY):
            for knot in range(7):
                self.deed(shelf, knot, key)
        self.assertEqual(shelf.stand()[1][3], (-SIXTY, SIXTY))


class Nearness(Held):
    """Point 23."""

    def far_off(self, before, after, child, parent):
        """How far behind, and how far ahead, what changed above lies of the nearest that changed here."""
        knot, gone, come = child
        entries = sorted(set(before[knot] + after[knot]))
        changed = [entries.index(entry) for entry in gone + come]
        told = []
        for entry in parent[1] + parent[2]:
            at = entries.index(entry)
            behind = [at - other for other in changed if other <= at]
            ahead = [other - at for other in changed if other >= at]
            told.append((min(behind, default=None), min(ahead, default=None)))
        return told

    def held_near(self, stand, deeds):
        shelf = Shelf(stand)
        seen = []
        for knot, key in deeds:
            before = state_of(shelf)[1]
            told = self.deed(shelf, knot, key)
            after = state_of(shelf)[1]
            for child, parent in zip(told, told[1:]):
                self.assertEqual(stand[0][child[0]], parent[0])
                for behind, ahead in self.far_off(before, after, child, parent):
                    near = behind is not None and behind <= 10 or ahead is not None and ahead <= 5
                    self.assertTrue(near, (stand, knot, key))
                    seen.append((behind, ahead))
        return seen

    def test_what_changes_above_is_near_to_what_changes_beneath(self):
        chance = random.Random(96)
        seen = []
        for tree in (chain(2), chain(9), chain(40), broom(9), some_tree(chance, 12), some_tree(chance, 40)):
            for many, far in ((250, 90), (250, 400), (200, SIXTY)):
                stand = (tree, some_rows(chance, tree, many, far))
                keys = some_keys_about(chance, stand, 25)
                seen.extend(self.held_near(stand, [(chance.randrange(len(tree)), key) for key in keys]))
        # a good part of the changes above are of entries that didn't change beneath
        self.assertGreater(len([each for each in seen if each[0] != 0]), 100)
        self.assertGreater(len(seen), 1000)

    def test_long_rows(self):
        chance = random.Random(97)
        for far in (200, 10 ** 6, SIXTY):
            stand = (chain(3), ((), (), some_rows(chance, (None,), 240, far)[0]))
            self.held_near(stand, [(2, chance.choice(keys_about(stand))) for each in range(60)])


class Refusals(Held):
    def test_twice(self):
        shelf = Shelf(STAND)
        for knot, row in enumerate(STAND[1]):
            for key in row:
                self.refused(Twice, shelf, shelf.put, knot, key)
        shelf.put(3, 5)
        self.refused(Twice, shelf, shelf.put, 3, 5)
        shelf.out(3, 5)
        shelf.put(3, 5)
        self.refused(Twice, shelf, shelf.put, 3, 5)

    def test_missing(self):
        shelf = Shelf(STAND)
        for knot, row in enumerate(STAND[1]):
            for key in keys_about(STAND):
                if key not in row:
                    self.refused(Missing, shelf, shelf.out, knot, key)
        shelf.out(0, 5)
        self.refused(Missing, shelf, shelf.out, 0, 5)

    def test_no_room_for_keys(self):
        for tree in (chain(1), chain(40), broom(7)):
            stand = full_stand(tree)
            shelf = Shelf(stand)
            last = len(tree) - 1
            for knot in (0, last):
                self.refused(NoRoom, shelf, shelf.put, knot, 1000)
                self.refused(NoRoom, shelf, shelf.put, knot, -SIXTY)
                # where the row has the key, that is told first
                self.refused(Twice, shelf, shelf.put, knot, stand[1][knot][0])
            self.deed(shelf, 0, 0)
            self.deed(shelf, last, 1000)
            self.refused(NoRoom, shelf, shelf.put, 0, 0)
            self.refused(Missing, shelf, shelf.out, 0, 0)

    def test_just_300_keys_have_room(self):
        shelf = Shelf((TREE, (tuple(range(150)), tuple(range(149))) + ((),) * 5))
        self.deed(shelf, 6, 7)
        self.refused(NoRoom, shelf, shelf.put, 6, 8)

    def test_no_room_for_knots(self):
        for tree in (chain(40), broom(40)):
            shelf = Shelf((tree, ((),) * 40))
            for parent in (0, 1, 39):
                self.refused(NoRoom, shelf, shelf.hang, parent)
            # a knot that is none is told first
            for parent in (40, 41, -1, None, True):
                self.refused(NoKnot, shelf, shelf.hang, parent)

    def test_no_knot(self):
        shelf = Shelf(STAND)
        for thing in NO_KNOTS_OF_TREE:
            with self.subTest(kind=type(thing)):
                self.refused(NoKnot, shelf, shelf.put, thing, 3)
                self.refused(NoKnot, shelf, shelf.out, thing, 5)
                self.refused(NoKnot, shelf, shelf.hang, thing)
                self.refused(NoKnot, shelf, shelf.full, thing)

    def test_no_key(self):
        shelf = Shelf(STAND)
        for thing in NO_KEYS:
            for knot in (0, 3, 6):
                with self.subTest(kind=type(thing), knot=knot):
                    self.refused(NoKey, shelf, shelf.put, knot, thing)
                    self.refused(NoKey, shelf, shelf.out, knot, thing)

    def test_truths_are_no_keys_where_the_row_has_0_and_1(self):
        shelf = Shelf((chain(2), ((0, 1), (0, 1))))
        for truth in (False, True):
            self.refused(NoKey, shelf, shelf.put, 0, truth)
            self.refused(NoKey, shelf, shelf.out, 0, truth)
            self.refused(NoKnot, shelf, shelf.put, truth, 7)
            self.refused(NoKnot, shelf, shelf.out, truth, 0)
            self.refused(NoKnot, shelf, shelf.hang, truth)
            self.refused(NoKnot, shelf, shelf.full, truth)

    def test_no_knot_goes_ahead_of_no_key(self):
        shelf = Shelf(STAND)
        for knot in NO_KNOTS_OF_TREE:
            for key in (None, True, "3", LONG, []):
                self.refused(NoKnot, shelf, shelf.put, knot, key)
                self.refused(NoKnot, shelf, shelf.out, knot, key)

    def test_both_go_ahead_of_the_others(self):
        shelf = Shelf(full_stand(chain(40)))
        for thing in (-1, 40, None, True, "0", [], LONG):
            # no room for it, had it a knot; twice there and missing, had it a right knot
            for key in (1000, 0, 1, 39):
                self.refused(NoKnot, shelf, shelf.put, thing, key)
                self.refused(NoKnot, shelf, shelf.out, thing, key)
            self.refused(NoKnot, shelf, shelf.hang, thing)
        for thing in NO_KEYS:
            self.refused(NoKey, shelf, shelf.put, 0, thing)
            self.refused(NoKey, shelf, shelf.out, 0, thing)

    def test_no_way(self):
        shelf = Shelf(STAND)
        for thing in no_ways():
            for key in (5, -SIXTY):
                self.refused(NoWay, shelf, shelf.find, thing, key)

    def test_a_way_to_a_knot_that_is_not_yet_hung(self):
        shelf = Shelf(STAND)
        self.refused(NoWay, shelf, shelf.find, [6, 7], 5)
        self.refused(NoWay, shelf, shelf.find, [7], 5)
        shelf.hang(6)
        self.assertEqual(len(shelf.find([6, 7], 5)), 2)
        self.refused(NoWay, shelf, shelf.find, [0, 7], 5)
        self.refused(NoWay, shelf, shelf.find, [7, 8], 5)

    def test_after_refusals_all_goes_on(self):
        shelf = Shelf(STAND)
        for ask, handed_in in ((shelf.put, (0, 5)), (shelf.put, (7, 5)), (shelf.out, (0, 3)), (shelf.put, (0, None)),
                               (shelf.hang, (9,)), (shelf.find, ([0, 4], 5)), (shelf.full, (9,))):
            with self.assertRaises(BridgeError):
                ask(*handed_in)
        self.deed(shelf, 6, 8)
        self.deed(shelf, 0, 5)
        self.held(shelf, plain_out(plain_put(STAND, 6, 8), 0, 5))


class Hanging(Held):
    def test_the_new_knots_number_and_its_empty_row(self):
        for stand in small_stands(random.Random(98)) + [STAND, LITTLE]:
            for parent in range(len(stand[0])):
                shelf = Shelf(stand)
                number = shelf.hang(parent)
                self.assertEqual(number, len(stand[0]))
                self.assertIs(type(number), int)
                self.assertEqual(shelf.full(number), [])
                self.assertEqual(state_of(shelf)[1][:-1], plain_full_rows(stand))
                self.held(shelf, plain_hang(stand, parent))

    def test_up_to_forty_knots(self):
        chance = random.Random(99)
        for under in (lambda many: many - 1, lambda many: 0, lambda many: chance.randrange(many)):
            shelf = Shelf(((None,), ((3, 7, 9),)))
            for many in range(1, 40):
                before = shelf.stand()
                parent = under(many)
                self.assertEqual(shelf.hang(parent), many)
                self.held(shelf, plain_hang(before, parent))
            self.refused(NoRoom, shelf, shelf.hang, 0)
            self.deed(shelf, 39, 5)
            self.deed(shelf, 39, 6)

    def test_deeds_at_new_knots_and_ways_that_end_in_them(self):
        chance = random.Random(100)
        for stand in (STAND, LITTLE, ((None,), ((),)), (chain(9), some_rows(chance, chain(9), 80, 40))):
            shelf = Shelf(stand)
            for each in range(6):
                knot = shelf.hang(chance.randrange(len(shelf.stand()[0])))
                for key in chance.sample(range(-40, 40), 12):
                    self.deed(shelf, knot, key)
                    self.deed(shelf, chance.randrange(knot + 1), key + 50)
                way = ways_up(shelf.stand()[0], knot)[::-1]
                fulls = plain_full_rows(shelf.stand())
                for key in range(-41, 91, 5):
                    places = plain_places(fulls, shelf.stand()[1], key)
                    self.assertEqual(shelf.find(way, key), [places[at] for at in way])

    def test_keys_and_knots_at_their_most(self):
        shelf = Shelf(full_stand(chain(39)))
        self.assertEqual(shelf.hang(38), 39)
        self.refused(NoRoom, shelf, shelf.put, 39, 5)
        self.refused(NoRoom, shelf, shelf.hang, 39)
        shelf.out(0, 0)
        self.deed(shelf, 39, 5)


class Finds(Held):
    def held_finds(self, shelf, ways, keys):
        stand = shelf.stand()
        fulls = plain_full_rows(stand)
        for key in keys:
            places = plain_places(fulls, stand[1], key)
            for way in ways:
                told = shelf.find(way, key)
                self.assertEqual(told, [places[knot] for knot in way], (stand, way, key))
                self.assertIs(type(told), list)
                self.assertTrue(all([type(part) for part in each] == [int, int] for each in told))
                self.assertTrue(all(type(each) is tuple for each in told))

    def test_worked_by_hand(self):
        shelf = Shelf(LITTLE)
        self.assertEqual(shelf.find([0, 1, 2], 6), [(0, 0), (1, 1), (1, 1)])
        self.assertEqual(shelf.find([1, 2], 8), [(2, 1), (2, 2)])
        self.assertEqual(shelf.find([2], 3), [(0, 0)])
        shelf.out(2, 7)
        self.assertEqual(shelf.find([0, 1, 2], 8), [(0, 0), (1, 1), (1, 1)])
        shelf.put(0, 7)
        self.assertEqual(shelf.find([0, 1, 2], 8), [(1, 1), (1, 1), (1, 1)])

    def test_all_ways_and_keys_of_small_stands(self):
        for stand in small_stands(random.Random(101)) + [STAND]:
            self.held_finds(Shelf(stand), all_ways(stand[0]), keys_about(stand))

    def test_behind_deeds(self):
        chance = random.Random(102)
        for tree in some_trees(chance):
            shelf = Shelf((tree, some_rows(chance, tree, 150, 120)))
            for each in range(8):
                for deed in range(4):
                    self.deed(shelf, chance.randrange(len(tree)), chance.randint(-120, 120))
                self.held_finds(shelf, some_ways(chance, tree, 1), some_keys_about(chance, shelf.stand(), 4))


class TheAskersOwn(Held):
    def test_the_stand_handed_in_stays(self):
        for stand in (STAND, LITTLE):
            kept = copy.deepcopy(stand)
            shelf = Shelf(stand)
            shelf.put(0, 77)
            shelf.out(1, 5)
            shelf.hang(1)
            shelf.put(len(stand[0]), 5)
            self.assertEqual(stand, kept)
            self.assertNotEqual(shelf.stand(), kept)

    def test_a_stand_that_was_told_stays(self):
        shelf = Shelf(STAND)
        told = shelf.stand()
        shelf.put(0, 77)
        shelf.hang(3)
        self.assertEqual(told, STAND)
        later = shelf.stand()
        shelf.out(0, 77)
        self.assertEqual(later, plain_hang(plain_put(STAND, 0, 77), 3))

    def asked_of(self, shelf):
        return [shelf.full(0), shelf.full(6), shelf.find(list(WAY), 6), shelf.put(6, 11), shelf.out(6, 5),
                shelf.full(6), shelf.full(0), shelf.put(4, 6), shelf.out(4, 6)]

    def test_lists_that_were_told_are_changed_and_nothing_later_changes(self):
        right = self.asked_of(Shelf(STAND))
        shelf = Shelf(STAND)
        for ask, answer in zip((lambda: shelf.full(0), lambda: shelf.full(6), lambda: shelf.find(list(WAY), 6),
                                lambda: shelf.put(6, 11), lambda: shelf.out(6, 5), lambda: shelf.full(6),
                                lambda: shelf.full(0), lambda: shelf.put(4, 6), lambda: shelf.out(4, 6)), right):
            told = ask()
            self.assertEqual(told, answer)
            within = lists_within(told)
            self.assertEqual(len({id(each) for each in within}), len(within))
            for each in within:
                each.append((99, 9))
                each[:1] = []
        self.held(shelf, plain_out(plain_put(STAND, 6, 11), 6, 5))

    def test_what_was_told_stays_whatever_is_done_later(self):
        shelf = Shelf(STAND)
        told = self.asked_of(shelf)
        kept = copy.deepcopy(told)
        chance = random.Random(103)
        for each in range(60):
            self.deed(shelf, chance.randrange(7), chance.randint(0, 12))
        self.assertEqual(told, kept)

    def test_a_way_handed_in_stays_the_askers(self):
        shelf = Shelf(STAND)
        way = list(WAY)
        told = shelf.find(way, 6)
        self.assertEqual(way, WAY)
        right = list(told)
        way.append(9)
        way[0] = 8
        self.assertEqual(told, right)
        self.assertEqual(shelf.find(list(WAY), 6), right)
        thing = [0, [1], 4]
        self.refused(NoWay, shelf, shelf.find, thing, 6)
        self.assertEqual(thing, [0, [1], 4])

    def test_things_that_are_refused_stay(self):
        shelf = Shelf(STAND)
        thing = [0, [1]]
        self.refused(NoKnot, shelf, shelf.put, thing, 3)
        self.refused(NoKey, shelf, shelf.out, 0, thing)
        self.refused(NoKnot, shelf, shelf.hang, thing)
        self.refused(NoKnot, shelf, shelf.full, thing)
        self.assertEqual(thing, [0, [1]])

    def test_two_shelves_of_one_stand_know_nothing_of_each_other(self):
        one, other = Shelf(STAND), Shelf(STAND)
        first = second = STAND
        for key in range(20, 32):
            self.deed(one, key % 7, key)
            first = plain_put(first, key % 7, key)
            self.held(other, second)
            self.deed(other, key % 5, key + 1)
            second = plain_put(second, key % 5, key + 1)
            self.held(one, first)
        self.assertEqual(one.hang(6), 7)
        self.held(other, second)
        self.assertEqual(other.hang(3), 7)
        self.held(one, plain_hang(first, 6))
        self.held(other, plain_hang(second, 3))

    def test_a_shelf_of_the_stand_of_a_shelf(self):
        one = Shelf(STAND)
        one.put(6, 20)
        other = Shelf(one.stand())
        self.deed(other, 6, 21)
        self.held(one, plain_put(STAND, 6, 20))


class TheInterface(unittest.TestCase):
    def test_the_arguments_names(self):
        for ask, names in ((Shelf, ["stand"]), (Shelf(STAND).put, ["knot", "key"]), (Shelf(STAND).out, ["knot", "key"]),
                           (Shelf(STAND).hang, ["parent"]), (Shelf(STAND).stand, []), (Shelf(STAND).full, ["knot"]),
                           (Shelf(STAND).find, ["way", "key"])):
            self.assertEqual(list(inspect.signature(ask).parameters), names)


if __name__ == "__main__":
    unittest.main()
