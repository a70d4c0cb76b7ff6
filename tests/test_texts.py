"""Points 2, 3 and 25: a stand's text, told and read."""

import copy
import inspect
import random
import unittest

from bridgefind.errors import BridgeError, NoText
from bridgefind.texts import read_stand, show_stand
from plain import (FAR_KEYS, NO_TEXTS, SIXTY, STAND, TREE, UNWRITTEN, broom, chain, is_stand, plain_read,
                   plain_text, small_stands, some_stands)

STANDS = some_stands(random.Random(121)) + small_stands(random.Random(122)) + [STAND, (TREE, ((),) * 7)]
TEXT = "root 3 7\nunder 0\nunder 1 -2 4\nunder 0 5"
SIXTY_NINES = "9" * 60


class Texts(unittest.TestCase):
    def refused(self, text, line):
        with self.assertRaises(BridgeError) as caught:
            read_stand(text)
        self.assertIs(type(caught.exception), NoText)
        self.assertEqual(caught.exception.line, line, repr(text)[:200])
        self.assertIs(type(caught.exception.line), int)

    def held(self, text):
        """Just as the document's words done plainly have it."""
        right = plain_read(text)
        if isinstance(right, int):
            self.refused(text, right)
        else:
            self.assertEqual(read_stand(text), right, text)
            self.assertEqual(show_stand(right), text)


class Shown(Texts):
    def test_worked_by_hand(self):
        self.assertEqual(show_stand(((None, 0, 1), ((3, 7), (), (-2, 4)))), "root 3 7\nunder 0\nunder 1 -2 4")
        self.assertEqual(show_stand(((None,), ((),))), "root")
        self.assertEqual(show_stand(((None,), ((-SIXTY, -1, 0, SIXTY),))), f"root -{SIXTY_NINES} -1 0 {SIXTY_NINES}")
        self.assertEqual(show_stand((broom(3), ((), (0,), ()))), "root\nunder 0 0\nunder 0")
        self.assertTrue(show_stand((chain(40), ((),) * 40)).endswith("\nunder 37\nunder 38"))

    def test_written_sign_by_sign(self):
        for stand in STANDS:
            told = show_stand(stand)
            self.assertIs(type(told), str)
            self.assertEqual(told, plain_text(stand))


class Read(Texts):
    def test_worked_by_hand(self):
        self.assertEqual(read_stand("root 3 7\nunder 0\nunder 1 -2 4"), ((None, 0, 1), ((3, 7), (), (-2, 4))))
        self.assertEqual(read_stand("root"), ((None,), ((),)))
        self.assertEqual(read_stand("root 0"), ((None,), ((0,),)))
        self.assertEqual(read_stand("root\nunder 0 0\nunder 0"), (broom(3), ((), (0,), ())))
        self.assertEqual(read_stand(f"root -{SIXTY_NINES} -10 {SIXTY_NINES}"), ((None,), ((-SIXTY, -10, SIXTY),)))

    def test_what_was_shown_is_read_again(self):
        for stand in STANDS:
            text = show_stand(stand)
            told = read_stand(text)
            self.assertEqual(told, stand)
            self.assertTrue(is_stand(told))
            self.assertEqual(show_stand(told), text)

    def test_forty_knots_and_three_hundred_keys(self):
        far = SIXTY - 300
        for tree in (chain(40), broom(40), (None,) + (0,) * 20 + tuple(range(19))):
            rows = tuple(tuple(range(far + knot, far + 300, 40)) for knot in range(40))
            stand = (tree, rows)
            self.assertEqual(sum(map(len, rows)), 300)
            # much longer than four thousand signs, but it was told
            self.assertEqual(read_stand(show_stand(stand)), stand)

    def test_three_hundred_keys_of_one_knot(self):
        stand = ((None,), (tuple(range(-150, 150)),))
        self.assertEqual(read_stand("root " + " ".join(map(str, range(-150, 150)))), stand)
        self.refused("root " + " ".join(map(str, range(-150, 151))), 0)
        self.refused("root " + " ".join(map(str, range(1000))), 0)


class Refused(Texts):
    def test_what_is_no_text(self):
        for thing in NO_TEXTS + (b"root", ["root"], ("root",), {"root": 3}, ["root", "under 0"], ((None,), ((),))):
            with self.subTest(kind=type(thing)):
                self.refused(thing, 0)

    def test_the_empty_text(self):
        self.refused("", 0)
        self.refused("\n", 0)
        self.refused(" ", 0)
        self.refused("\n" + TEXT, 0)

    def test_line_ends_too_many(self):
        self.refused("root\n", 1)
        self.refused(TEXT + "\n", 4)
        self.refused(TEXT + "\n\n", 4)
        self.refused("root\n\nunder 0", 1)
        self.refused("root 3 7\nunder 0\n\nunder 1", 2)

    def test_other_words(self):
        for word in ("Root", "ROOT", "rot", "roots", "root3", "root,", "under", "under 0", "3", "-", "~root", "r oot",
                     "knot"):
            self.refused(word, 0)
            self.refused(word + "\nunder 0", 0)
        for word in ("Under 0", "UNDER 0", "below 0", "und 0", "under0", "unders 0", "0", "0 under", "under-0", "3 4",
                     "root"):
            self.refused("root\n" + word, 1)
            self.refused("root\nunder 0\n" + word + "\nunder 1", 2)

    def test_root_elsewhere_and_under_first(self):
        self.refused("root\nroot", 1)
        self.refused("root 3\nunder 0\nroot 4", 2)
        self.refused("root\nunder 0\nroot 0 4", 2)
        self.refused("under 0", 0)
        self.refused("under 0 3\nroot", 0)
        self.refused("under 0\nunder 0", 0)
        self.refused("under\nunder 0", 0)

    def test_blanks(self):
        lines = TEXT.split("\n")
        for at, line in enumerate(lines):
            for gap in [None] + [spot for spot, sign in enumerate(line) if sign == " "]:
                others = [" " + line, line + " "] if gap is None else [line[:gap] + " " + line[gap:]]
                for other in others:
                    self.refused("\n".join(lines[:at] + [other] + lines[at + 1:]), at)
        self.refused("root ", 0)
        self.refused("root\nunder ", 1)
        self.refused("root\nunder  0", 1)
        self.refused("root\nunder 0 ", 1)
        self.refused("root\t3", 0)
        self.refused("root\r\nunder 0", 0)

    def test_parents(self):
        for parent in ("1", "2", "5", "10", "40", "-1") + UNWRITTEN + FAR_KEYS:
            self.refused("root\nunder " + parent, 1)
            self.refused("root 3\nunder " + parent + " 4\nunder 0", 1)
        for parent in ("2", "3", "-1", "-2", "00", "01"):
            self.refused("root\nunder 0\nunder " + parent, 2)
        self.refused("root\nunder", 1)
        self.refused("root\nunder 0\nunder\nunder 0", 2)
        tall = show_stand((chain(12), ((),) * 12))
        self.assertEqual(read_stand(tall + "\nunder 11")[0], chain(13))
        for parent in ("011", "12", "13", "1 1 1", "-11", "11 ", "1 1 0"):
            self.refused(tall + "\nunder " + parent, 12)

    def test_which_word_is_the_parent(self):
        # the word behind under is the parent, those behind it are the keys
        self.assertEqual(read_stand("root\nunder 0 7 9"), ((None, 0), ((), (7, 9))))
        self.refused("root\nunder 7 9", 1)

    def test_keys_that_do_not_rise(self):
        for keys in ("3 3", "3 2", "0 -1", "-1 -2", "-1 -1", "1 2 3 3", "1 3 2", "2 1 3", "0 0", "5 4 3", "9 10 9",
                     f"{SIXTY_NINES} 5", f"0 -{SIXTY_NINES}"):
            self.refused("root " + keys, 0)
            self.refused("root 5\nunder 0 " + keys + "\nunder 1", 1)

    def test_keys_that_are_none(self):
        for word in UNWRITTEN + FAR_KEYS:
            self.refused("root " + word, 0)
            self.refused("root\nunder 0 " + word + "\nunder 0", 1)
            self.refused("root -5 " + word + " 99", 0)
            self.refused("root 5\nunder 0\nunder 1 -2 " + word, 2)
            self.refused("root 5\nunder 0 " + word + " 4\nunder 1 -2", 1)

    def test_sixty_figures_are_read_and_sixty_one_are_not(self):
        for sign in ("", "-"):
            self.assertEqual(read_stand("root " + sign + SIXTY_NINES)[1], ((int(sign + SIXTY_NINES),),))
            self.assertEqual(read_stand("root " + sign + "1" + "0" * 59)[1], ((int(sign + "1" + "0" * 59),),))
            self.refused("root " + sign + "1" + "0" * 60, 0)
            self.refused("root " + sign + SIXTY_NINES + "9", 0)

    def test_figures_of_other_scripts(self):
        for word in ("\u0663", "\u00b2", "\uff11", "1\u0663"):
            self.refused("root " + word, 0)
            self.refused("root\nunder " + word, 1)

    def test_the_41st_knot(self):
        for tree in (chain(40), broom(40)):
            text = show_stand((tree, ((),) * 40))
            self.assertEqual(read_stand(text)[0], tree)
            self.refused(text + "\nunder 0", 40)
            self.refused(text + "\nunder 39 5", 40)
            self.refused(text + "\nunder 0\nunder 0", 40)
            self.refused(text + "\nnothing", 40)
        self.refused("root\n" + "\n".join(["under 0"] * 400), 40)

    def test_the_301st_key(self):
        hundred = " " + " ".join(map(str, range(100)))
        text = f"root{hundred}\nunder 0{hundred}\nunder 1{hundred}"
        self.assertEqual(len(read_stand(text)[1][2]), 100)
        self.refused(text + " 100", 2)
        self.refused(text + "\nunder 0 5", 3)
        self.assertEqual(len(read_stand(text + "\nunder 0\nunder 0")[0]), 5)
        self.refused(text + "\nunder 0\nunder 0 5\nunder 0 6", 4)
        self.refused(text.replace("root", "root -1"), 2)

    def test_of_two_such_lines_the_first(self):
        wrong = ("", "root", "under", "under 9", "under 0 3 3", "under 0 01", "under 0 ", " under 0", "other")
        for one in wrong:
            for other in wrong:
                self.refused("\n".join(["root", one, other]), 1)
                self.refused("\n".join(["root", "under 0", one, "under 0", other]), 2)
                if one != "root":
                    self.refused("\n".join([one, "under 0", other]), 0)
        keys = " ".join(map(str, range(301)))
        self.refused("root\nunder 0 " + keys + "\nunder 9", 1)
        self.refused("root\nunder 9\nunder 0 " + keys, 1)


class NearToRight(Texts):
    """Right texts with a sign put in, left out or changed, told apart as the words done plainly do."""

    def test_each_sign_left_out_or_changed_or_put_in(self):
        for text in (TEXT, "root", "root 0\nunder 0 -10 0 9 10\nunder 1\nunder 12", show_stand(STAND)):
            for at in range(len(text) + 1):
                self.held(text[:at] + text[at + 1:])
                for sign in "0123456789- \nrut,+_.":
                    self.held(text[:at] + sign + text[at:])
                    self.held(text[:at] + sign + text[at + 1:])

    def test_lines_exchanged_left_out_and_doubled(self):
        for stand in STANDS[::3]:
            lines = show_stand(stand).split("\n")
            for at in range(len(lines)):
                self.held("\n".join(lines[:at] + lines[at + 1:]))
                self.held("\n".join(lines[:at] + [lines[at]] + lines[at:]))
                self.held("\n".join(lines[:at] + lines[at + 1:at + 2] + [lines[at]] + lines[at + 2:]))

    def test_signs_by_chance(self):
        chance = random.Random(123)
        words = ("root", "under", "0", "1", "2", "3", "-1", "-0", "05", "", "7")
        for each in range(4000):
            lines = ["root" if chance.random() < 0.8 else chance.choice(words)]
            for knot in range(chance.randrange(4)):
                lines.append("under " + chance.choice(("0", "0", "1", "2", "-1", "00", "")))
            for at in range(len(lines)):
                for key in range(chance.randrange(3)):
                    lines[at] = lines[at] + " " + chance.choice(words[2:])
            self.held("\n".join(lines))


class TheInterface(Texts):
    def test_what_was_handed_in_stays(self):
        kept = copy.deepcopy(STAND)
        show_stand(STAND)
        self.assertEqual(STAND, kept)
        thing = ["root", ["under 0"]]
        self.refused(thing, 0)
        self.assertEqual(thing, ["root", ["under 0"]])

    def test_the_arguments_names(self):
        self.assertEqual(list(inspect.signature(show_stand).parameters), ["stand"])
        self.assertEqual(list(inspect.signature(read_stand).parameters), ["text"])


if __name__ == "__main__":
    unittest.main()
