"""Points 2, 3, 12 and 26: a desk, its rows, and what it refuses."""

import inspect
import itertools
import random
import unittest

from bridgefind.asks import above, below, places, stretch, who_has
from bridgefind.desk import Desk
from bridgefind.errors import BridgeError, Missing, NoKey, NoKnot, NoRoom, NoRow, NoText, NoWay, Twice
from bridgefind.stands import full_row, weight
from plain import (FAR_KEYS, NO_TEXTS, STAND, UNWRITTEN, WRONG_TURNS, all_ways, broom, chain, is_written,
                   keys_about, plain_deed, plain_full_rows, plain_hang, plain_out, plain_put, plain_text,
                   small_stands, some_keys_about, some_rows, some_stands, some_trees, some_ways)

# what stands behind a first word: H a knot, K a key, W one or more knots, a way
FORMS = {"show": "", "put": "HK", "out": "HK", "hang": "H", "full": "H", "find": "KW", "has": "KW", "above": "KW",
         "below": "KW", "between": "KKW", "weight": ""}
# a row of each form that TEXT's desk answers
TEXT = plain_text(STAND)
RIGHT = ("show", "put 3 8", "out 0 5", "hang 6", "full 4", "find 6 0 1 4 6", "has 5 1 4", "above 7 4 6", "below 7 4 6",
         "between 5 9 0 1 4", "weight")
NO_KNOTS_OF_TREE = UNWRITTEN + FAR_KEYS + ("7", "8", "40", "-1", "-7")
NO_KEYS = UNWRITTEN + FAR_KEYS


def due(stand, row):
    """Point 26 word by word: the refusal that is due, or None."""
    words = row.split(" ")
    form = FORMS.get(words[0])
    if form is None or len(words) - 1 < len(form) or len(words) - 1 > len(form) and not form.endswith("W"):
        return NoRow
    kinds = form + "W" * (len(words) - 1 - len(form))
    for kind, word in zip(kinds, words[1:]):
        if kind == "K" and not (is_written(word) and len(word.replace("-", "")) <= 60):
            return NoKey
        if kind != "K" and not (is_written(word) and 0 <= int(word) < len(stand[0])):
            return NoKnot
    numbers = [int(word) for word in words[1:]]
    way = [number for kind, number in zip(kinds, numbers) if kind == "W"]
    if any(stand[0][knot] != parent for parent, knot in zip(way, way[1:])):
        return NoWay
    return due_of_deed(stand, words[0], numbers)


def due_of_deed(stand, word, numbers):
    if word == "put" and numbers[1] in stand[1][numbers[0]]:
        return Twice
    if word == "put" and sum(map(len, stand[1])) >= 300:
        return NoRoom
    if word == "out" and numbers[1] not in stand[1][numbers[0]]:
        return Missing
    if word == "hang" and len(stand[0]) >= 40:
        return NoRoom
    return None


def deed_told(before, after, knot):
    deed = plain_deed(before, after, knot)
    return f"{sum(len(gone) for at, gone, come in deed)} {sum(len(come) for at, gone, come in deed)}"


def entries_told(entries):
    return " ".join(f"{key}:{knot}" for key, knot in entries) or "none"


def asked(stand, word, numbers):
    """The answer to a right row that changes nothing, by the functions."""
    key, way = numbers[:1], numbers[1:]
    if word == "show":
        return plain_text(stand)
    if word == "weight":
        return "{} {}".format(*weight(stand))
    if word == "full":
        return entries_told(full_row(stand, numbers[0]))
    if word == "find":
        return " ".join(map(str, places(stand, way, *key)))
    if word == "has":
        return " ".join(map(str, who_has(stand, way, *key))) or "none"
    if word in ("above", "below"):
        entry = (above if word == "above" else below)(stand, way, *key)
        return entries_told([] if entry is None else [entry])
    return " ".join(",".join(map(str, keys)) or "-" for keys in stretch(stand, way[1:], key[0], way[0]))


def answered(stand, row):
    """The answer to a right row, and the stand behind it."""
    word, *words = row.split(" ")
    numbers = [int(each) for each in words]
    if word == "hang":
        return str(len(stand[0])), plain_hang(stand, numbers[0])
    if word in ("put", "out"):
        after = (plain_put if word == "put" else plain_out)(stand, *numbers)
        return deed_told(stand, after, numbers[0]), after
    return asked(stand, word, numbers), stand


def asks_of(key, other, way):
    words = " ".join(map(str, way))
    told = [f"{word} {key} {words}" for word in ("find", "has", "above", "below")]
    return told + [f"between {key} {other} {words}"]


class Desks(unittest.TestCase):
    def is_as(self, desk, stand):
        self.assertEqual(desk.say("show"), plain_text(stand))
        for knot, full in enumerate(plain_full_rows(stand)):
            self.assertEqual(desk.say(f"full {knot}"), entries_told(full))

    def refused(self, error, desk, row):
        with self.assertRaises(BridgeError) as caught:
            desk.say(row)
        self.assertIs(type(caught.exception), error, repr(row)[:200])

    def said(self, desk, stand, row):
        """The row is answered or refused as it is due; tells the stand behind it."""
        error = due(stand, row)
        if error is not None:
            self.refused(error, desk, row)
            return stand
        right, after = answered(stand, row)
        told = desk.say(row)
        self.assertEqual(told, right, (stand, row))
        self.assertIs(type(told), str)
        return after


class ByHand(Desks):
    def test_each_row(self):
        desk = Desk("root 3 7\nunder 0\nunder 1 -2 4")
        # by out 2 4 the rows of 2 and 1 lose it, and 9:1, then alone at 1, is handed on to 0 no more
        for row, right in (("show", "root 3 7\nunder 0\nunder 1 -2 4"), ("full 2", "-2:2 4:2"), ("full 1", "4:2"),
                           ("full 0", "3:0 7:0"), ("weight", "4 5"), ("find 4 0 1 2", "1 0 1"), ("find 5 2", "2"),
                           ("has 4 0 1 2", "2"), ("has 5 0 1 2", "none"), ("above 4 0 1 2", "4:2"),
                           ("above 8 0 1 2", "none"), ("below 4 0 1 2", "3:0"), ("below -2 0 1 2", "none"),
                           ("between -2 5 0 1 2", "3 - -2,4"), ("between 5 -2 0 1 2", "- - -"), ("hang 2", "3"),
                           ("full 3", "none"), ("put 3 4", "0 1"), ("has 4 0 1 2 3", "2 3"), ("put 1 9", "0 2"),
                           ("full 1", "4:2 9:1"), ("full 0", "3:0 7:0 9:1"), ("out 2 4", "3 0"), ("full 1", "9:1"),
                           ("full 0", "3:0 7:0"), ("weight", "5 5"), ("out 3 4", "1 0"),
                           ("show", "root 3 7\nunder 0 9\nunder 1 -2\nunder 2"), ("between 3 9 0", "3,7")):
            self.assertEqual(desk.say(row), right, row)

    def test_keys_of_sixty_figures_and_below_0(self):
        nines = "9" * 60
        desk = Desk(f"root -{nines} 0 {nines}")
        self.assertEqual(desk.say("full 0"), f"-{nines}:0 0:0 {nines}:0")
        self.assertEqual(desk.say(f"has -{nines} 0"), "0")
        self.assertEqual(desk.say(f"between -{nines} {nines} 0"), f"-{nines},0")
        self.assertEqual(desk.say(f"out 0 -{nines}"), "1 0")
        self.assertEqual(desk.say(f"put 0 -{nines}"), "0 1")
        self.assertEqual(desk.say(f"above {nines} 0"), f"{nines}:0")
        self.assertEqual(desk.say(f"below {nines} 0"), "0:0")


class Answers(Desks):
    def test_all_asks_of_small_stands(self):
        for stand in small_stands(random.Random(131)) + [STAND]:
            desk = Desk(plain_text(stand))
            for row in ["show", "weight"] + [f"full {knot}" for knot in range(len(stand[0]))]:
                self.said(desk, stand, row)
            keys = keys_about(stand)
            for way in all_ways(stand[0]):
                for key, other in zip(keys, keys[len(keys) // 3:] + keys):
                    for row in asks_of(key, other, way):
                        self.said(desk, stand, row)
            self.is_as(desk, stand)

    def test_some_asks_of_many_stands(self):
        chance = random.Random(132)
        for stand in some_stands(chance):
            desk = Desk(plain_text(stand))
            self.said(desk, stand, "weight")
            for way in some_ways(chance, stand[0], 1):
                for key in some_keys_about(chance, stand, 2):
                    for row in asks_of(key, key + 40, way):
                        self.said(desk, stand, row)
            self.is_as(desk, stand)

    def test_deeds(self):
        chance = random.Random(133)
        for tree in some_trees(chance):
            stand = (tree, some_rows(chance, tree, 100, 60))
            desk = Desk(plain_text(stand))
            for each in range(40):
                knot, key = chance.randrange(len(stand[0])), chance.randint(-60, 60)
                row = chance.choice((f"put {knot} {key}", f"out {knot} {key}", f"hang {knot}", f"put {knot} {key}"))
                stand = self.said(desk, stand, row)
            self.is_as(desk, stand)

    def test_rows_by_chance_right_and_wrong(self):
        chance = random.Random(134)
        words = ("0", "0", "1", "1", "2", "4", "6", "5", "9", "7", "-3", "-0", "01", "", "x", "9" * 61)
        stand = STAND
        desk = Desk(TEXT)
        errors = []
        for each in range(6000):
            first = chance.choice(tuple(FORMS) + ("", "Show", "puts"))
            many = len(FORMS.get(first, "")) + chance.choice((0, 0, 0, 0, 0, 1, 1, 2, -1))
            row = " ".join([first] + [chance.choice(words[:-6] if chance.random() < 0.7 else words)
                                      for word in range(many)])
            errors.append(due(stand, row))
            after = self.said(desk, stand, row)
            if each % 20 == 0 or errors[-1] is not None and each % 5 == 0:
                self.is_as(desk, after)
            stand = after
        for error in (None, NoRow, NoKnot, NoKey, NoWay, Twice, Missing, NoRoom):
            self.assertGreater(errors.count(error), 10, error)

    def test_each_way_there_is_of_three_knots(self):
        stand = ((None, 0, 1), ((5,), (3, 5), (7,)))
        desk = Desk(plain_text(stand))
        for many in range(5):
            for knots in itertools.product("0123", repeat=many):
                for first in ("find 5", "has 5", "above 5", "below 5", "between 3 6"):
                    self.said(desk, stand, " ".join((first,) + knots))


class NoTexts(Desks):
    def test_a_text_that_is_none(self):
        for text, line in (("", 0), ("root ", 0), ("root\n", 1), ("root\nunder 1", 1), ("root 3 3", 0),
                           ("root\nunder 0 -0", 1), ("show", 0), ("root\nunder 0\nunder 1 4 2\nunder 9", 2)):
            with self.assertRaises(BridgeError) as caught:
                Desk(text)
            self.assertIs(type(caught.exception), NoText)
            self.assertEqual(caught.exception.line, line)

    def test_what_is_no_text(self):
        for thing in NO_TEXTS + (STAND, ["root"], b"root"):
            with self.assertRaises(BridgeError) as caught:
                Desk(thing)
            self.assertIs(type(caught.exception), NoText)
            self.assertEqual(caught.exception.line, 0)


class NoRows(Desks):
    def setUp(self):
        self.desk = Desk(TEXT)

    def tearDown(self):
        self.is_as(self.desk, STAND)

    def test_what_is_no_text(self):
        for thing in NO_TEXTS + (["show"], ("show",), b"show", {"show": 1}, ["put", "0", "3"]):
            self.refused(NoRow, self.desk, thing)

    def test_other_first_words(self):
        for word in ("", "shows", "sho", "puts", "pu", "places", "paper", "stretch", "first", "root", "under", "0", "-",
                     "none", "stand", "say", "exchanged", "H", "show\n", "\nshow", "show\t", "weights", "weight\n"):
            for rest in ("", " 0", " 0 3", " 5 0 1", " 3 9 0 1"):
                self.refused(NoRow, self.desk, word + rest)

    def test_great_letters(self):
        for row in RIGHT:
            self.refused(NoRow, self.desk, row.upper())
            self.refused(NoRow, self.desk, row.capitalize())
            self.refused(NoRow, self.desk, row[0] + row[1].upper() + row[2:])

    def test_words_too_few_and_too_many(self):
        for row in ("show 0", "show show", "show ", "weight 0", "weight ", "weight 0 1", "put", "put 3", "put 3 8 9",
                    "put 3 8 ", "out", "out 0", "out 0 5 0", "hang", "hang 6 0", "hang 6 6 6", "full", "full 4 4",
                    "full 4 ", "find", "find 6", "has", "has 5", "above", "above 7", "below", "below 7", "between",
                    "between 5", "between 5 9"):
            self.refused(NoRow, self.desk, row)

    def test_how_many_words_goes_ahead_of_what_they_are(self):
        for row in ("show x", "put x", "put x y z", "put 99", "out 99 5 5", "hang x y", "full 99 99", "find x",
                    "has -0", "above x", "below 01", "between x", "between x y", "weight x", "put   x", "find ",
                    "between  "):
            self.refused(NoRow, self.desk, row)

    def test_blanks_ahead(self):
        for row in RIGHT:
            self.refused(NoRow, self.desk, " " + row)
            self.refused(NoRow, self.desk, "  " + row)

    def test_blanks_behind(self):
        for row in RIGHT:
            # where as many words as one likes may stand, the word without signs is one of them, and no knot
            error = NoKnot if FORMS[row.split(" ")[0]].endswith("W") else NoRow
            self.refused(error, self.desk, row + " ")
            self.refused(error, self.desk, row + "  ")

    def test_two_blanks_together(self):
        for row, error in (("put  3 8", NoRow), ("put 3  8", NoRow), ("hang  6", NoRow), ("full  4", NoRow),
                           ("find  6 0 1", NoKey), ("find 6  0 1", NoKnot), ("find 6 0  1", NoKnot),
                           ("has  5 1 4", NoKey), ("has 5  1 4", NoKnot), ("above  7 4 6", NoKey),
                           ("below 7  4 6", NoKnot), ("between  5 9 0", NoKey), ("between 5  9 0", NoKey),
                           ("between 5 9  0", NoKnot), ("hang ", NoKnot), ("full ", NoKnot), ("put  8", NoKnot),
                           ("put 3 ", NoKey), ("out  5", NoKnot), ("out 0 ", NoKey), ("find 6 ", NoKnot),
                           ("find  0", NoKey), ("between 5  0", NoKey), ("between 5 9 ", NoKnot), ("find  ", NoKey),
                           ("between   ", NoKey), ("put  ", NoKnot)):
            self.refused(error, self.desk, row)

    def test_line_ends(self):
        for row in RIGHT:
            if row in ("show", "weight"):
                error = NoRow
            else:
                error = {"H": NoKnot, "K": NoKey, "W": NoKnot}[FORMS[row.split(" ")[0]][-1]]
            self.refused(error, self.desk, row + "\n")
            self.refused(NoRow, self.desk, "\n" + row)


class Refusals(Desks):
    def setUp(self):
        self.desk = Desk(TEXT)

    def tearDown(self):
        self.is_as(self.desk, STAND)

    def test_no_knot(self):
        for word in NO_KNOTS_OF_TREE:
            for row in ("put {} 8", "out {} 5", "hang {}", "full {}", "find 5 {}", "find 5 0 {}", "find 5 0 {} 4",
                        "has 5 {}", "has 5 {} 1", "above 5 {}", "above 5 0 1 {}", "below 5 {}", "below 5 {} 0",
                        "between 5 9 {}", "between 5 9 0 1 4 {}", "between 5 9 {} 0"):
                self.refused(NoKnot, self.desk, row.format(word))

    def test_no_key(self):
        for word in NO_KEYS:
            for row in ("put 3 {}", "out 0 {}", "find {} 0", "find {} 0 1", "has {} 0", "above {} 0 1", "below {} 0",
                        "between {} 9 0", "between 5 {} 0", "between {0} {0} 0"):
                self.refused(NoKey, self.desk, row.format(word))

    def test_no_way(self):
        for way in WRONG_TURNS:
            words = " ".join(map(str, way))
            for row in ("find 5 ", "has 5 ", "above 5 ", "below 5 ", "between 5 9 ", "between 9 5 ", "has 99 "):
                self.refused(NoWay, self.desk, row + words)

    def test_from_the_left(self):
        for row, error in (("put x y", NoKnot), ("put 0 y", NoKey), ("out 99 y", NoKnot), ("out 0 -0", NoKey),
                           ("put 7 01", NoKnot), ("find x y", NoKey), ("find 5 y", NoKnot), ("find x 0 4", NoKey),
                           ("has -0 99", NoKey), ("above x 0 99", NoKey), ("below 5 0 99", NoKnot),
                           ("between x y z", NoKey), ("between 5 y z", NoKey), ("between 5 9 z", NoKnot),
                           ("between x 9 z", NoKey), ("between 5 9 0 x", NoKnot)):
            self.refused(error, self.desk, row)

    def test_no_knot_goes_ahead_of_no_way(self):
        for row in ("find 5 0 4 99", "has 5 0 4 x", "above 5 6 0 -1", "below 5 0 0 07", "between 5 9 0 4 7"):
            self.refused(NoKnot, self.desk, row)

    def test_no_key_goes_ahead_of_no_way(self):
        for row in ("find x 0 4", "has -0 0 0", "above 01 1 0", "below  6 0", "between 5 x 0 4", "between x 5 0 4"):
            self.refused(NoKey, self.desk, row)

    def test_twice_and_missing(self):
        for knot, row in enumerate(STAND[1]):
            for key in range(-1, 14):
                if key in row:
                    self.refused(Twice, self.desk, f"put {knot} {key}")
                else:
                    self.refused(Missing, self.desk, f"out {knot} {key}")


class NoRooms(Desks):
    def test_just_300_keys(self):
        stand = (broom(3), (tuple(range(100)), tuple(range(100)), tuple(range(99))))
        desk = Desk(plain_text(stand))
        stand = self.said(desk, stand, "put 2 700")
        self.assertEqual(sum(map(len, stand[1])), 300)
        for row, error in (("put 2 800", NoRoom), ("put 0 -1", NoRoom), ("put 2 700", Twice), ("put 0 5", Twice),
                           ("put 3 800", NoKnot), ("put 2 x", NoKey), ("put 2 0800", NoKey), ("out 2 800", Missing),
                           ("put 2", NoRow)):
            self.refused(error, desk, row)
        self.is_as(desk, stand)
        stand = self.said(desk, stand, "out 0 5")
        stand = self.said(desk, stand, "put 2 800")
        self.refused(NoRoom, desk, "put 0 5")
        self.is_as(desk, stand)

    def test_just_40_knots(self):
        stand = (chain(39), ((),) * 39)
        desk = Desk(plain_text(stand))
        self.refused(NoKnot, desk, "full 39")
        self.refused(NoWay, desk, "find 5 38 38")
        self.refused(NoKnot, desk, "find 5 38 39")
        self.assertEqual(desk.say("hang 38"), "39")
        stand = plain_hang(stand, 38)
        self.assertEqual(desk.say("full 39"), "none")
        self.assertEqual(desk.say("find 5 38 39"), "0 0")
        for row, error in (("hang 0", NoRoom), ("hang 39", NoRoom), ("hang 40", NoKnot), ("hang x", NoKnot),
                           ("hang 0 0", NoRow)):
            self.refused(error, desk, row)
        self.is_as(desk, stand)


class OnItsOwn(Desks):
    def test_two_desks_of_one_text_know_nothing_of_each_other(self):
        one, other = Desk(TEXT), Desk(TEXT)
        one.say("put 3 8")
        one.say("hang 3")
        self.is_as(other, STAND)
        other.say("out 0 5")
        self.is_as(one, plain_hang(plain_put(STAND, 3, 8), 3))
        self.is_as(other, plain_out(STAND, 0, 5))

    def test_what_is_shown_is_read_by_another_desk(self):
        desk, stand = Desk(TEXT), STAND
        for row in ("put 3 8", "hang 3", "put 7 4", "out 6 5", "hang 7"):
            stand = self.said(desk, stand, row)
            self.is_as(Desk(desk.say("show")), stand)

    def test_rows_that_are_refused_stay(self):
        thing = ["show", ["x"]]
        self.refused(NoRow, Desk(TEXT), thing)
        self.assertEqual(thing, ["show", ["x"]])

    def test_the_arguments_names(self):
        self.assertEqual(list(inspect.signature(Desk).parameters), ["text"])
        self.assertEqual(list(inspect.signature(Desk("root").say).parameters), ["row"])


if __name__ == "__main__":
    unittest.main()
