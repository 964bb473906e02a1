"""[2], [3], [20]: rows and names as texts, and rows read back."""

import itertools
import random
import unittest

from evenlots.errors import NoText
from evenlots.texts import read_rows, show_name, show_rows
from making import (
    GREAT, Unhelpful, check_refusal, mixed_rows, oddities, read_by_pattern, small_rows_of_hands, tagged_rows,
    written_rows,
)

GOOD_TEXTS = (
    "-", "-; -", "0:a", "-1:a", "10:abcdefgh", "3:a, 1:b", "3:a, 1:b; -; 2:c", "-; 5:z", f"{GREAT}:a; {-GREAT}:b",
    "1:a; 2:b; 3:c; 4:d; 5:e; 6:f", "-; -; -; -; -; -", "-7:x, -7:x, -7:x; 0:y",
)


class Shown(unittest.TestCase):
    def check(self, rows, text):
        self.assertEqual(show_rows(rows), text)
        self.assertIs(type(show_rows(rows)), str)
        self.assertEqual(read_rows(text), rows)

    def test_ordinary_rows(self):
        self.check([[(3, "a"), (1, "bc")], [(2, "z")]], "3:a, 1:bc; 2:z")
        self.check([[(1, "abcdefgh")]], "1:abcdefgh")

    def test_rows_without_things(self):
        self.check([[]], "-")
        self.check([[], []], "-; -")
        self.check([[] for hand in range(6)], "-; -; -; -; -; -")
        self.check([[], [(1, "a")], []], "-; 1:a; -")

    def test_keys(self):
        self.check([[(0, "a")]], "0:a")
        self.check([[(-1, "a"), (-10, "b")]], "-1:a, -10:b")
        self.check([[(10 ** 29, "a")], [(-(10 ** 29), "b")]], "1" + "0" * 29 + ":a; -1" + "0" * 29 + ":b")
        self.check([[(GREAT, "a"), (-GREAT, "b")]], "9" * 30 + ":a, -" + "9" * 30 + ":b")

    def test_things_are_not_sorted(self):
        self.check([[(9, "b"), (1, "a"), (9, "a")]], "9:b, 1:a, 9:a")

    def test_names(self):
        for name, text in (
            ((3, 0, 12), "3.0.12"), ((0, 0, 0), "0.0.0"), ((-7, 5, 199), "-7.5.199"),
            ((GREAT, 1, 2), "9" * 30 + ".1.2"), ((-GREAT, 1, 2), "-" + "9" * 30 + ".1.2"), ((10, 3, 100), "10.3.100"),
        ):
            self.assertEqual(show_name(name), text)
            self.assertIs(type(show_name(name)), str)

    def test_by_words(self):
        for rows in small_rows_of_hands(2, 3, (-1, 0, 10)):
            self.check(rows, written_rows(rows))
        for hands in range(1, 7):
            for seed in range(20):
                rows = mixed_rows(f"text {seed} {hands}", hands, 20)
                self.check(rows, written_rows(rows))

    def test_no_two_rows_have_one_writing(self):
        seen = {}
        for hands in (1, 2, 3):
            for rows in small_rows_of_hands(hands, 2, (-1, 0, 1, 11)):
                text = show_rows(rows)
                self.assertNotIn(text, seen)
                seen[text] = True

    def test_long_rows(self):
        rows = [[(place % 10, "a") for place in range(200)] for hand in range(3)]
        self.check(rows, written_rows(rows))
        rows = [[(place % 10, "a") for place in range(700)]]
        self.check(rows, written_rows(rows))

    def test_rows_stay(self):
        rows = tagged_rows([[3, 1], [], [2]])
        kept = tagged_rows([[3, 1], [], [2]])
        self.assertEqual(show_rows(rows), show_rows(rows))
        self.assertEqual(rows, kept)


class Read(unittest.TestCase):
    def refused(self, text):
        check_refusal(self, NoText, read_rows, text)

    def check(self, text):
        """As the pattern tells: rows with this one writing, or refused."""
        rows = read_by_pattern(text)
        if rows is None:
            self.refused(text)
            return
        told = read_rows(text)
        self.assertEqual(told, rows, text)
        self.assertEqual(show_rows(told), text)
        self.assertIs(type(told), list)
        for row in told:
            self.assertIs(type(row), list)
            for thing in row:
                self.assertEqual((type(thing), type(thing[0]), type(thing[1])), (tuple, int, str))
        self.assertEqual(len(set(map(id, told))), len(told))

    def test_good_texts(self):
        for text in GOOD_TEXTS:
            self.assertIsNotNone(read_by_pattern(text), text)
            self.check(text)

    def test_nothing(self):
        for text in ("", " ", "  ", "\n", "\t", "\r\n"):
            self.refused(text)

    def test_keys_that_are_none(self):
        for key in (
            "-0", "00", "01", "007", "-01", "-00", "+1", "+0", "--1", "-", "", " 1", "1 ", "- 1", "1_0", "1.0", "1e3",
            "0x1", "1" * 31, "-" + "1" * 31, "0" * 30, "0" * 31, "-" + "0" * 30, "1" * 3000, "a", "1a", "a1", "1-",
            "1-1", "1\n", "\n1", "\t1", "1,", "\u0661", "\u00b2", "\uff11", "1\u0661", "\u22121", "1\u00a0",
        ):
            for text in (f"{key}:a", f"1:a, {key}:a", f"{key}:a, 1:a", f"1:a; {key}:a", f"{key}:a; 1:a; -"):
                self.refused(text)

    def test_thirty_figures_at_most(self):
        self.assertEqual(read_rows("1" * 30 + ":a"), [[(int("1" * 30), "a")]])
        self.assertEqual(read_rows("-" + "1" * 30 + ":a"), [[(-int("1" * 30), "a")]])

    def test_tags_that_are_none(self):
        for tag in (
            "", "A", "aB", "a1", "1", "abcdefghi", "a" * 100, "a b", " a", "a ", "a_", "a-", "-", "a.b", "a\n", "\na",
            "a\t", "a\r", "a\r\n", "a:", ":a", "a,", ",a", "a;", ";a", "\u00e4", "\u0430", "a\u0301", "a\x00", "\u00aa",
            "a\x0b", "a\x0c", "a\x1c", "a\x85", "a\u2028",
        ):
            for text in (f"1:{tag}", f"1:a, 1:{tag}", f"1:{tag}, 1:a", f"1:a; 1:{tag}", f"1:{tag}; 1:a; -"):
                self.refused(text)

    def test_colons(self):
        for text in ("1a", "1::a", ":1:a", "1:a:", "1:a:b", "1:2:a", ":", "1:", ":a", "1 :a", "1: a", "1;a", "1,a"):
            self.refused(text)

    def test_commas(self):
        for text in (
            "1:a,2:b", "1:a ,2:b", "1:a , 2:b", "1:a,  2:b", "1:a,, 2:b", "1:a, , 2:b", "1:a,", "1:a, ", ",1:a",
            ", 1:a", "1:a 2:b", "1:a  2:b", "1:a,\t2:b", "1:a,\n2:b", ",", ", ", "1:a, -", "-, 1:a", "-, -", "-,", "-, ",
        ):
            self.refused(text)

    def test_semicolons(self):
        for text in (
            "1:a;2:b", "1:a ;2:b", "1:a ; 2:b", "1:a;  2:b", "1:a;; 2:b", "1:a; ; 2:b", "1:a;", "1:a; ", ";1:a",
            "; 1:a", "1:a;\t2:b", "1:a;\n2:b", ";", "; ", "-;-", "-; ", "-;", "; -", "- -", "--", "-; --", "-;; -",
            "1:a,; 2:b", "1:a, ; 2:b", "1:a; , 2:b", "1:a;, 2:b", "-; ; -",
        ):
            self.refused(text)

    def test_blanks_and_line_ends_ahead_and_behind(self):
        for text in GOOD_TEXTS:
            for sign in (" ", "\n", "\t", "\r", "\r\n", "\x0b", "\u00a0", "\x00"):
                self.refused(text + sign)
                self.refused(sign + text)

    def test_more_than_six_rows(self):
        for many in range(1, 7):
            self.assertEqual(read_rows("; ".join(["-"] * many)), [[]] * many)
            self.assertEqual(read_rows("; ".join(["1:a"] * many)), [[(1, "a")]] * many)
        for many in (7, 8, 100, 1000):
            self.refused("; ".join(["-"] * many))
            self.refused("; ".join(["1:a"] * many))

    def test_a_sign_more_less_or_another_one(self):
        signs = " \t\n-:;,.0159az+_A{\u0661"
        for text in GOOD_TEXTS:
            for at in range(len(text) + 1):
                for sign in signs:
                    self.check(text[:at] + sign + text[at:])
                    self.check(text[:at] + sign + text[at + 1:])
                self.check(text[:at] + text[at + 1:])
                self.check(text[:at])
                self.check(text[at:])

    def test_all_short_texts(self):
        for many in range(6):
            for signs in itertools.product("-1:a0", repeat=many):
                self.check("".join(signs))

    def test_pieces_in_any_order(self):
        dice = random.Random("pieces")
        pieces = ("1:a", "-2:b", "0:c", "-", ", ", "; ", ", ", "; ", " ", ",", ";", ":", "-0", "12")
        for turn in range(4000):
            self.check("".join(dice.choice(pieces) for piece in range(dice.randint(1, 8))))

    def test_long_texts(self):
        things = ["1:a"] * 790
        self.check(", ".join(things))
        self.refused(", ".join(things) + ",")
        self.refused(", ".join(things + ["1:A"]))
        for sign in " -1a:;,\n":
            self.refused(sign * 4000)

    def test_anything_that_is_no_text(self):
        for thing in oddities() + [0, 1, -1, GREAT, 10 ** 5000, True, False, [], (), ["-"], ("-",), [[]], [[(1, "a")]]]:
            self.refused(thing)
        self.refused(b"-")
        self.refused(bytearray(b"1:a"))
        self.refused(Unhelpful())
        self.refused("\ud800")
        self.refused("1:\ud800")

    def test_what_is_read_is_the_askers_own(self):
        for text in ("3:a, 1:b; 2:c", "-", "-; -", "1:a; 1:a"):
            told = read_rows(text)
            kept = read_by_pattern(text)
            told[0].append((9, "q"))
            self.assertEqual(told[1:], kept[1:])
            told.append([])
            self.assertEqual(read_rows(text), kept)

    def test_refused_again_and_again(self):
        for turn in range(3):
            self.refused("1:a, ")
            self.assertEqual(read_rows("1:a"), [[(1, "a")]])


if __name__ == "__main__":
    unittest.main()
