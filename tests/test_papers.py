"""Points 2, 3, 12 and 18: papers told, papers let by."""

import copy
import inspect
import itertools
import random
import unittest

from bridgefind.errors import NoWay
from bridgefind.papers import lets_by, paper_of
from plain import (LONG, NO_LISTS, NO_NUMBERS, SIXTY, STAND, TREE, WAY, LikeAny, all_ways, chain, keys_about,
                   no_ways, plain_full_rows, plain_places, small_stands, some_keys_about, some_stands, some_ways)

STANDS = some_stands(random.Random(71))


def with_line(paper, at, line):
    return paper[:at] + [line] + paper[at + 1:]


def plain_paper(stand, way, key):
    places = plain_places(plain_full_rows(stand), stand[1], key)
    return [(knot,) + places[knot] for knot in way]


def some_cases():
    """Stands, ways and keys, each with the one paper that is let by."""
    long = (chain(12), tuple(tuple(range(knot % 5, 30, 4)) for knot in range(12)))
    cases = []
    for stand, way in ((STAND, WAY), (STAND, [1, 3]), (STAND, [2]), (STAND, [0, 2, 5]), (((None,), ((),)), [0]),
                       (long, list(range(12)))):
        keys = keys_about(stand)
        middle = len(keys) // 2
        for key in keys[:3] + keys[middle:middle + 2] + keys[-2:]:
            cases.append((stand, way, key, plain_paper(stand, way, key)))
    return cases


class PaperOf(unittest.TestCase):
    def held(self, stand, keys, ways):
        fulls = plain_full_rows(stand)
        for key in keys:
            places = plain_places(fulls, stand[1], key)
            for way in ways:
                told = paper_of(stand, way, key)
                self.assertEqual(told, [(knot,) + places[knot] for knot in way], (stand, way, key))
                self.assertIs(lets_by(stand, way, key, told), True)

    def test_worked_by_hand(self):
        # the full rows: (7, 2); (5, 1), (7, 2); (3, 2), (7, 2)
        stand = ((None, 0, 1), ((), (5,), (3, 7)))
        self.assertEqual(paper_of(stand, [0, 1, 2], 2), [(0, 0, 0), (1, 0, 0), (2, 0, 0)])
        self.assertEqual(paper_of(stand, [0, 1, 2], 6), [(0, 0, 0), (1, 1, 1), (2, 1, 1)])
        self.assertEqual(paper_of(stand, [0, 1, 2], 8), [(0, 1, 0), (1, 2, 1), (2, 2, 2)])
        self.assertEqual(paper_of(stand, [1, 2], 7), [(1, 1, 1), (2, 1, 1)])
        self.assertEqual(paper_of(stand, [2], 7), [(2, 1, 1)])
        self.assertEqual(paper_of(((None,), ((),)), [0], 7), [(0, 0, 0)])

    def test_every_way_and_every_key_of_small_stands(self):
        for stand in small_stands(random.Random(72)) + [STAND]:
            self.held(stand, keys_about(stand), all_ways(stand[0]))

    def test_some_ways_and_keys_of_many_stands(self):
        chance = random.Random(73)
        for stand in STANDS[::2]:
            self.held(stand, some_keys_about(chance, stand, 3), some_ways(chance, stand[0], 1))

    def test_the_kinds_told(self):
        for key in keys_about(STAND):
            told = paper_of(STAND, WAY, key)
            self.assertIs(type(told), list)
            for line in told:
                self.assertIs(type(line), tuple)
                self.assertEqual([type(number) for number in line], [int, int, int])

    def test_what_was_handed_in_stays_and_what_was_told_is_the_askers_own(self):
        way = list(WAY)
        kept = copy.deepcopy(STAND)
        told = paper_of(STAND, way, 5)
        self.assertEqual((STAND, way), (kept, WAY))
        right = list(told)
        told[0] = (9, 9, 9)
        told.append((8, 8, 8))
        self.assertEqual((STAND, way), (kept, WAY))
        other = paper_of(STAND, way, 5)
        self.assertEqual(other, right)
        way.append(7)
        way[0] = 8
        self.assertEqual(other, right)

    def test_the_arguments_names(self):
        self.assertEqual(list(inspect.signature(paper_of).parameters), ["stand", "way", "key"])


class NotLetBy(unittest.TestCase):
    cases = some_cases()

    def refused(self, stand, way, key, paper):
        self.assertIs(lets_by(stand, way, key, paper), False)

    def test_the_right_ones_are_let_by(self):
        for stand, way, key, paper in self.cases:
            self.assertIs(lets_by(stand, way, key, paper), True)

    def test_a_place_that_is_another(self):
        for stand, way, key, paper in self.cases:
            fulls = plain_full_rows(stand)
            for at, (knot, place, own) in enumerate(paper):
                length = len(fulls[knot])
                for other in (place - 1, place + 1, place - 2, place + 2, -1, -place, length, length + 1,
                              place - length - 1, -LONG, LONG):
                    if other != place:
                        self.refused(stand, way, key, with_line(paper, at, (knot, other, own)))

    def test_a_place_that_is_another_with_the_own_for_it(self):
        for stand, way, key, paper in self.cases:
            fulls = plain_full_rows(stand)
            for at, (knot, place, own) in enumerate(paper):
                for other in (place - 1, place + 1, 0, len(fulls[knot])):
                    if other != place and 0 <= other <= len(fulls[knot]):
                        owns = len([entry for entry in fulls[knot][:other] if entry[1] == knot])
                        self.refused(stand, way, key, with_line(paper, at, (knot, other, owns)))

    def test_an_own_that_is_another(self):
        for stand, way, key, paper in self.cases:
            for at, (knot, place, own) in enumerate(paper):
                for other in (own - 1, own + 1, -1, len(stand[1][knot]), len(stand[1][knot]) + 1, -LONG, LONG):
                    if other != own:
                        self.refused(stand, way, key, with_line(paper, at, (knot, place, other)))

    def test_a_knot_that_is_another(self):
        for stand, way, key, paper in self.cases:
            for at, (knot, place, own) in enumerate(paper):
                for other in (knot - 1, knot + 1, 0, len(stand[0]), -1, knot - len(stand[0]), -LONG, LONG):
                    if other != knot:
                        self.refused(stand, way, key, with_line(paper, at, (other, place, own)))

    def test_the_papers_of_other_ways(self):
        for stand in (STAND, (TREE, ((),) * 7), (TREE, ((5,),) * 7)):
            for key in (4, 5, 6):
                papers = [(way, plain_paper(stand, way, key)) for way in all_ways(TREE)]
                for (way, right), (other, paper) in itertools.product(papers, repeat=2):
                    self.assertIs(lets_by(stand, way, key, paper), way == other)

    def test_a_line_left_out_told_twice_or_one_too_many(self):
        for stand, way, key, paper in self.cases:
            for at in range(len(paper)):
                self.refused(stand, way, key, paper[:at] + paper[at + 1:])
                self.refused(stand, way, key, paper[:at] + [paper[at]] + paper[at:])
                for thing in ((7, 0, 0), (0, 0, 0), None, [], ()):
                    self.refused(stand, way, key, paper[:at] + [thing] + paper[at:])
                    self.refused(stand, way, key, paper[:at + 1] + [thing] + paper[at + 1:])

    def test_the_order_turned_about(self):
        for stand, way, key, paper in self.cases:
            if len(way) > 1:
                self.refused(stand, way, key, paper[::-1])
                self.refused(stand, way, key, [paper[1], paper[0]] + paper[2:])
                self.refused(stand, way, key, paper[1:] + paper[:1])

    def test_the_empty_list(self):
        for stand, way, key, paper in self.cases:
            self.refused(stand, way, key, [])

    def test_tuples_too_short_or_too_long(self):
        for stand, way, key, paper in self.cases:
            for at, line in enumerate(paper):
                for other in ((), line[:1], line[:2], line[1:], line + (0,), line + line, line + (None,), (line,)):
                    self.refused(stand, way, key, with_line(paper, at, other))

    def test_other_things_in_the_place_of_tuples(self):
        for stand, way, key, paper in self.cases:
            for at, line in enumerate(paper):
                others = [list(line), dict.fromkeys(line), str(line), iter(line), range(3), line[0], LONG]
                for other in others + list(NO_NUMBERS + NO_LISTS):
                    self.refused(stand, way, key, with_line(paper, at, other))

    def test_other_things_in_the_place_of_numbers(self):
        for stand, way, key, paper in self.cases:
            for at, line in enumerate(paper):
                for part, number in enumerate(line):
                    others = [bool(number), float(number), complex(number), str(number), (number,), [number]]
                    for other in others + list(NO_NUMBERS):
                        wrong = line[:part] + (other,) + line[part + 1:]
                        self.refused(stand, way, key, with_line(paper, at, wrong))

    def test_truths_that_are_like_the_right_numbers(self):
        stand = ((None, 0), ((3,), (3,)))
        for key, right in ((3, [(0, 0, 0), (1, 0, 0)]), (4, [(0, 1, 1), (1, 1, 1)])):
            self.assertIs(lets_by(stand, [0, 1], key, right), True)
            for at, line in enumerate(right):
                for part, number in enumerate(line):
                    for other in (bool(number), float(number), number + 0j):
                        wrong = line[:part] + (other,) + line[part + 1:]
                        self.assertEqual(wrong, line)
                        self.refused(stand, [0, 1], key, with_line(right, at, wrong))

    def test_lists_of_anything(self):
        around = []
        around.append(around)
        for thing in (around, [around], [None], [0], [WAY], list(WAY), ["", "", "", ""], [LikeAny()] * 4,
                      [(LikeAny(), LikeAny(), LikeAny())] * 4, [{}, {}, {}, {}], [[0, 0, 0]] * 4, [()] * 4,
                      [(None, None, None)] * 4, [(LONG, LONG, LONG)] * 4, ["abc"] * 4, list(NO_NUMBERS)):
            self.refused(STAND, WAY, 5, thing)

    def test_what_is_no_list(self):
        right = plain_paper(STAND, WAY, 5)
        for thing in (tuple(right), iter(right), dict.fromkeys(right), None, 0, "", LikeAny()):
            self.refused(STAND, WAY, 5, thing)

    def test_what_was_handed_in_stays(self):
        right = plain_paper(STAND, WAY, 5)
        for paper in (right, right[::-1], with_line(right, 2, (4, LONG, 0)), with_line(right, 1, [[1], 2, 3]), []):
            kept, kept_stand, way = copy.deepcopy(paper), copy.deepcopy(STAND), list(WAY)
            lets_by(STAND, way, 5, paper)
            self.assertEqual((paper, STAND, way), (kept, kept_stand, WAY))

    def test_a_paper_changed_behind_a_call_is_held_anew(self):
        paper = paper_of(STAND, WAY, 5)
        self.assertIs(lets_by(STAND, WAY, 5, paper), True)
        line = paper.pop()
        self.refused(STAND, WAY, 5, paper)
        paper.append(line)
        self.assertIs(lets_by(STAND, WAY, 5, paper), True)

    def test_the_arguments_names(self):
        self.assertEqual(list(inspect.signature(lets_by).parameters), ["stand", "way", "key", "paper"])


class LetByJustWhereTrue(unittest.TestCase):
    def test_papers_of_other_keys(self):
        for stand in small_stands(random.Random(74))[::2] + [STAND]:
            way = max(all_ways(stand[0]), key=len)
            papers = [(key, plain_paper(stand, way, key)) for key in keys_about(stand)]
            for key, right in papers:
                for other, paper in papers:
                    self.assertIs(lets_by(stand, way, key, paper), paper == right, (stand, way, key, other))

    def test_one_place_of_another_key(self):
        chance = random.Random(75)
        for stand in STANDS[3::10]:
            way = max(all_ways(stand[0]), key=len)
            for key, other in zip(some_keys_about(chance, stand, 4), some_keys_about(chance, stand, 4)[1:]):
                right, paper = plain_paper(stand, way, key), plain_paper(stand, way, other)
                for at in sorted({0, len(way) // 2, len(way) - 1}):
                    mixed = with_line(right, at, paper[at])
                    self.assertIs(lets_by(stand, way, key, mixed), mixed == right)

    def test_all_papers_of_a_small_stand(self):
        # the full rows: (7, 2); (5, 1), (7, 2); (3, 2), (7, 2)
        stand = ((None, 0, 1), ((), (5,), (3, 7)))
        lines = [[(knot, place, own) for place in range(-1, 4) for own in range(-1, 3)] for knot in (1, 2)]
        for key in range(2, 9):
            let = [paper for paper in itertools.product(*lines) if lets_by(stand, [1, 2], key, list(paper))]
            self.assertEqual(let, [tuple(plain_paper(stand, [1, 2], key))])


class NoWays(unittest.TestCase):
    def refused(self, ask, *handed_in):
        with self.assertRaises(NoWay) as caught:
            ask(STAND, *handed_in)
        self.assertIs(type(caught.exception), NoWay)

    def test_no_way_is_refused(self):
        for thing in no_ways():
            for key in (-SIXTY, 5):
                self.refused(paper_of, thing, key)
                for paper in ([], plain_paper(STAND, WAY, key), [None]):
                    self.refused(lets_by, thing, key, paper)

    def test_a_way_of_another_tree_is_refused(self):
        self.refused(paper_of, list(range(40)), 5)
        with self.assertRaises(NoWay):
            paper_of(((None,), ((),)), [0, 1], 5)

    def test_what_is_refused_stays(self):
        thing = [0, [1], 4]
        self.refused(paper_of, thing, 5)
        self.refused(lets_by, thing, 5, [])
        self.assertEqual(thing, [0, [1], 4])


if __name__ == "__main__":
    unittest.main()
