"""Point 3 over the whole program: one stand, by whatever part of it one asks."""

import random
import unittest

from bridgefind.asks import above, below, first_with, joined_from, places, stretch, who_has
from bridgefind.bridges import bridges
from bridgefind.desk import Desk
from bridgefind.marks import marks, near
from bridgefind.moves import exchanged, named, named_way, raised, turned_about
from bridgefind.papers import lets_by, paper_of
from bridgefind.search import search, search_beneath
from bridgefind.shelf import Shelf
from bridgefind.stands import full_rows, stand_of, weight, weight_beneath
from bridgefind.texts import read_stand, show_stand
from bridgefind.trees import beneath, tree_of
from plain import (all_ways, plain_full_rows, some_keys_about, some_order, some_rows, some_stands, some_trees,
                   some_ways, small_stands)


def counted(row, key):
    return len([other for other in row if other < key])


class Looks:
    """Tells whether entries are below a key, and keeps the count."""

    def __init__(self, fulls, key):
        self.fulls, self.key, self.looks = fulls, key, []

    def is_below(self, knot, at):
        self.looks.append((knot, at))
        return self.fulls[knot][at][0] < self.key

    def of(self, knot):
        return len([look for look in self.looks if look[0] == knot])


class Whole(unittest.TestCase):
    def same_places(self, stand, shelf, desk, way, key):
        rows = [stand[1][knot] for knot in way]
        owns = [counted(row, key) for row in rows]
        fulls = [shelf.full(knot) for knot in range(len(stand[0]))]
        right = [(len([entry for entry in fulls[knot] if entry[0] < key]), own) for knot, own in zip(way, owns)]
        words = " ".join(map(str, [key] + way))
        self.assertEqual(places(stand, way, key), owns)
        self.assertEqual(shelf.find(way, key), right)
        self.assertEqual(desk.say("find " + words), " ".join(map(str, owns)))
        looks = Looks(fulls, key)
        self.assertEqual(search(bridges(stand), way, looks.is_below), right)
        self.assertLessEqual(looks.of(way[0]), len(fulls[way[0]]).bit_length())
        self.assertTrue(all(looks.of(knot) <= 2 for knot in way[1:]))
        paper = [(knot,) + each for knot, each in zip(way, right)]
        self.assertEqual(paper_of(stand, way, key), paper)
        self.assertIs(lets_by(stand, way, key, paper), True)
        beneath_it = search_beneath(bridges(stand), way[0], Looks(fulls, key).is_below)
        self.assertEqual([each[0] for each in beneath_it], beneath(stand[0], way[0]))
        self.assertTrue(all(line in beneath_it for line in paper))

    def same_asks(self, stand, desk, way, key):
        words = " ".join(map(str, way))
        having = [knot for knot in way if key in stand[1][knot]]
        self.assertEqual(who_has(stand, way, key), having)
        self.assertEqual(first_with(stand, way, key), having[0] if having else None)
        self.assertEqual(desk.say(f"has {key} {words}"), " ".join(map(str, having)) or "none")
        entries = sorted((other, knot) for knot in way for other in stand[1][knot])
        over = [entry for entry in entries if entry[0] >= key]
        under = [entry for entry in entries if entry[0] < key]
        self.assertEqual(joined_from(stand, way, key, 300), over)
        for told, word, right in ((above(stand, way, key), "above", over[:1]),
                                  (below(stand, way, key), "below", under[-1:])):
            self.assertEqual([told] if told else [], right)
            self.assertEqual(desk.say(f"{word} {key} {words}"), "{}:{}".format(*right[0]) if right else "none")
        keys = [[other for other in stand[1][knot] if key <= other < key + 20] for knot in way]
        self.assertEqual(stretch(stand, way, key, key + 20), keys)
        self.assertEqual(desk.say(f"between {key} {key + 20} {words}"),
                         " ".join(",".join(map(str, each)) or "-" for each in keys))

    def light_everywhere(self, stand):
        for knot in range(len(stand[0])):
            keys, entries = weight_beneath(stand, knot)
            self.assertLessEqual(entries, 2 * keys)
        self.assertEqual(weight(stand), weight_beneath(stand, 0))

    def sparse(self, full):
        told = marks(full)
        for one, other in zip(told, told[1:]):
            self.assertFalse(one and other)
        for three in zip(told, told[1:], told[2:]):
            self.assertIn(True, three)
        self.assertLessEqual(2 * told.count(True), len(full))


class OneStand(Whole):
    def all_alike(self, chance, stand, shelf, desk):
        self.assertEqual(shelf.stand(), stand)
        self.assertEqual(desk.say("show"), show_stand(stand))
        self.assertEqual(desk.say("weight"), "{} {}".format(*weight(stand)))
        fulls = plain_full_rows(stand)
        self.assertEqual(full_rows(stand), fulls)
        for knot, full in enumerate(fulls):
            self.assertEqual(shelf.full(knot), full)
            self.assertEqual(desk.say(f"full {knot}"), " ".join(f"{key}:{at}" for key, at in full) or "none")
            self.sparse(full)
        self.light_everywhere(stand)
        for way in some_ways(chance, stand[0], 1):
            for key in some_keys_about(chance, stand, 2):
                self.same_places(stand, shelf, desk, way, key)
                if abs(key) < 10 ** 50:
                    self.same_asks(stand, desk, way, key)

    def deed(self, chance, rows, shelf, desk):
        """One deed by chance, at the rows themselves, the shelf and the desk."""
        knot, key = chance.randrange(len(rows)), chance.randint(-70, 70)
        if key in rows[knot]:
            rows[knot].remove(key)
            told, row = shelf.out(knot, key), f"out {knot} {key}"
        else:
            rows[knot].append(key)
            told, row = shelf.put(knot, key), f"put {knot} {key}"
        right = [sum(len(each[part]) for each in told) for part in (1, 2)]
        self.assertEqual(desk.say(row), "{} {}".format(*right))

    def test_a_text_read_and_deeds_done_at_a_shelf_and_at_a_desk(self):
        chance = random.Random(141)
        for tree in some_trees(chance):
            start = (tree, some_rows(chance, tree, chance.choice((0, 20, 120)), 70))
            text = show_stand(start)
            desk, shelf = Desk(text), Shelf(read_stand(text))
            parents, rows = list(tree), [list(row) for row in start[1]]
            for each in range(5):
                for many in range(6):
                    self.deed(chance, rows, shelf, desk)
                if len(parents) < 40:
                    parents.append(chance.randrange(len(parents)))
                    rows.append([])
                    self.assertEqual(shelf.hang(parents[-1]), len(parents) - 1)
                    self.assertEqual(desk.say(f"hang {parents[-1]}"), str(len(parents) - 1))
                self.all_alike(chance, stand_of(tree_of(parents), rows), shelf, desk)

    def test_stands_of_all_forms(self):
        chance = random.Random(142)
        for stand in some_stands(chance)[::2]:
            text = show_stand(stand)
            self.assertEqual(read_stand(text), stand)
            self.all_alike(chance, stand, Shelf(stand), Desk(text))

    def test_a_mark_hangs_on_the_near_ones_alone(self):
        """Whatever a deed does, where the near ones stay alike the mark stays too."""
        chance = random.Random(143)
        for tree in some_trees(chance):
            shelf = Shelf((tree, some_rows(chance, tree, 200, 90)))
            for each in range(6):
                knot = chance.randrange(len(tree))
                free = [key for key in range(-90, 91) if key not in shelf.stand()[1][knot]]
                before = shelf.full(knot)
                shelf.put(knot, chance.choice(free))
                after = shelf.full(knot)
                olds = {entry: (near(before, at), mark) for at, (entry, mark) in enumerate(zip(before, marks(before)))}
                for at, (entry, mark) in enumerate(zip(after, marks(after))):
                    if entry in olds and olds[entry][0] == near(after, at):
                        self.assertEqual(olds[entry][1], mark)


class MovedStands(Whole):
    """All answers are carried along."""

    def light(self, stand):
        keys, entries = weight(stand)
        self.assertLessEqual(entries, 2 * keys)

    def each_ask(self, seed):
        chance = random.Random(seed)
        for stand in small_stands(chance) + some_stands(chance)[::3]:
            ways = all_ways(stand[0]) if len(stand[0]) < 6 else some_ways(chance, stand[0], 2)
            for way in ways:
                for key in some_keys_about(chance, stand, 3):
                    if abs(key) < 10 ** 50:
                        yield chance, stand, way, key

    def test_knots_named_anew(self):
        for chance, stand, way, key in self.each_ask(144):
            order = some_order(chance, stand[0])
            other, there = named(stand, order), named_way(way, order)
            self.assertEqual(places(other, there, key), places(stand, way, key))
            self.assertEqual(who_has(other, there, key), named_way(who_has(stand, way, key), order))
            self.assertEqual(stretch(other, there, key, key + 9), stretch(stand, way, key, key + 9))
            joined = [(each, order[knot]) for each, knot in joined_from(stand, way, key, 300)]
            self.assertEqual(joined_from(other, there, key, 300), sorted(joined))
            self.assertEqual(above(other, there, key), min(joined, default=None))
            self.assertEqual([own for at, own in Shelf(other).find(there, key)], places(stand, way, key))
            self.assertEqual([line[2] for line in paper_of(other, there, key)], places(stand, way, key))
            self.light(other)

    def test_rows_exchanged(self):
        for chance, stand, way, key in self.each_ask(145):
            one, other = chance.randrange(len(stand[0])), chance.randrange(len(stand[0]))
            moved = exchanged(stand, one, other)
            to = {one: other, other: one}
            rows = [stand[1][to.get(knot, knot)] for knot in way]
            self.assertEqual(places(moved, way, key), [counted(row, key) for row in rows])
            self.assertEqual([own for at, own in Shelf(moved).find(way, key)], places(moved, way, key))
            self.assertEqual(who_has(moved, way, key), [knot for knot, row in zip(way, rows) if key in row])
            self.assertEqual([line[2] for line in paper_of(moved, way, key)], places(moved, way, key))
            self.light(moved)

    def test_keys_raised(self):
        for chance, stand, way, key in self.each_ask(146):
            greatest = max([abs(each) for row in stand[1] for each in row], default=0)
            by = chance.choice((1, -1, 40, -1000)) if greatest < 10 ** 50 else 0
            moved = raised(stand, by)
            self.assertEqual(places(moved, way, key + by), places(stand, way, key))
            self.assertEqual(who_has(moved, way, key + by), who_has(stand, way, key))
            self.assertEqual(joined_from(moved, way, key + by, 9),
                             [(each + by, knot) for each, knot in joined_from(stand, way, key, 9)])
            self.assertEqual([own for at, own in Shelf(moved).find(way, key + by)], places(stand, way, key))
            self.assertEqual([line[2] for line in paper_of(moved, way, key + by)], places(stand, way, key))
            self.light(moved)

    def test_keys_turned_about(self):
        for chance, stand, way, key in self.each_ask(147):
            moved = turned_about(stand)
            over = [len(stand[1][knot]) - at for knot, at in zip(way, places(stand, way, key + 1))]
            self.assertEqual(places(moved, way, -key), over)
            self.assertEqual(who_has(moved, way, -key), who_has(stand, way, key))
            self.assertEqual(stretch(moved, way, -key - 8, -key + 1),
                             [[-each for each in reversed(keys)] for keys in stretch(stand, way, key, key + 9)])
            self.assertEqual([own for at, own in Shelf(moved).find(way, -key)], over)
            self.assertEqual([line[2] for line in paper_of(moved, way, -key)], over)
            self.light(moved)


if __name__ == "__main__":
    unittest.main()
