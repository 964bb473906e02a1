"""[2], [3], [21], [22]: the desk, its rows and answers, and which refusal goes first."""

import random
import re
import unittest

from evenlots.desk import Desk
from evenlots.errors import LotError, NoDeed, NoName, NoNumber, NoRow, NoText
from evenlots.sortings import Sorting
from making import (
    GREAT, Unhelpful, all_deeds, bound_by_words, by_seed, check_refusal, do_all, key_sizes_by_words, kth_by_words,
    listed_by_insertion, mixed_rows, oddities, read_by_pattern, sizes_by_words, steps, written, written_rows,
)

NAME = "([a-z]{1,8})"
NUMBER = "(0|[1-9][0-9]{0,3})"
FORMS = [
    f"(rows) {NAME} {NUMBER} (.*)", f"(take) {NAME} {NUMBER} {NUMBER}", "(names)",
    f"(post|all|drop|may|bound|sizes|keys|end) {NAME}",
    f"(sort|give|cut|merge|has|room|compared|kth) {NAME} {NUMBER}",
]
OF_A_NAME = ("post", "all", "drop", "may", "bound", "sizes", "keys", "end")
OF_A_NUMBER = ("sort", "give", "cut", "merge", "has", "room", "compared", "kth")
DEEDS = ("sort", "give", "post", "cut", "take", "merge")
WORDS = OF_A_NAME + OF_A_NUMBER + ("rows", "take", "names")

# Two hands with s of 2: samples 1 2 4 5, the post is 4, the lots are 1 2 3 and 4 5 9.
TEXT = "5:a, 3:b, 9:c, 1:d; 4:e, 2:f"
# What writes no rows, and is a TEXT all the same.
NO_TEXTS = ("", " ", " -", "- ", "1:a,2:b", "-0:a", "01:a", "1:A", "x", "1:a\n", "-;-", "; ".join(["-"] * 7))


class DeskByWords:
    """What [21] and [22] say, with the rows of each name kept beside its sorting."""

    def __init__(self):
        self.kept = {}

    def say(self, row):
        fits = [re.fullmatch(form, row, re.DOTALL) for form in FORMS]
        words = [list(fit.groups()) for fit in fits if fit]
        if not words:
            raise NoRow("none")
        word, *rest = words[0]
        if word == "names":
            return " ".join(sorted(self.kept)) or "none"
        if word == "rows":
            return self.rows(*rest)
        if rest[0] not in self.kept:
            raise NoName("none")
        if word == "drop":
            del self.kept[rest[0]]
            return "ok"
        return self.answer(word, [int(number) for number in rest[1:]], *self.kept[rest[0]])

    def rows(self, name, s, text):
        rows = read_by_pattern(text)
        if rows is None:
            raise NoText("none")
        if not 1 <= int(s) <= 8:
            raise NoNumber("none")
        self.kept[name] = (rows, int(s), Sorting(rows, int(s)))
        return "ok"

    def answer(self, word, numbers, rows, s, sorting):
        if word == "all":
            do_all(sorting)
            return "ok"
        if word in DEEDS:
            sorting.do_deed((word, *numbers))
            return "ok"
        if word == "kth":
            if numbers[0] >= sum(map(len, rows)):
                raise NoNumber("none")
            thing, rounds = kth_by_words(rows, numbers[0])
            return f"{written([thing])} {rounds}"
        if word in ("has", "room", "compared") and numbers[0] >= len(rows):
            raise NoDeed("none")
        if word == "end":
            if not sorting.is_done():
                raise NoDeed("none")
            return written([thing for name, thing in listed_by_insertion(rows)])
        answers = {
            "may": lambda: len(sorting.may_do()),
            "has": lambda: written(sorting.row_of(numbers[0])),
            "room": lambda: "{} {}".format(*sorting.room_of(numbers[0])),
            "compared": lambda: sorting.compared_by(numbers[0]),
            "bound": lambda: bound_by_words([len(row) for row in rows], s),
            "sizes": lambda: " ".join(map(str, sizes_by_words(rows, s))),
            "keys": lambda: " ".join(map(str, key_sizes_by_words(rows, s))),
        }
        return str(answers[word]())


def row_for(deed):
    """The row that has name a do this deed."""
    return " ".join([deed[0], "a"] + [str(part) for part in deed[1:]])


def outcome(ask, row):
    """The answer, or the class of the refusal."""
    try:
        return ask(row)
    except LotError as refusal:
        return type(refusal)


def view(desk):
    """All that a desk tells, as one value."""
    told = [desk.names(), desk.say("names")]
    for name in desk.names():
        told += [outcome(desk.say, f"{word} {name}") for word in ("may", "bound", "sizes", "keys", "end")]
        told += [outcome(desk.say, f"{word} {name} {h}") for word in ("has", "room", "compared") for h in range(7)]
        told += [outcome(desk.say, f"kth {name} {k}") for k in (0, 1, 5)]
    return told


class Desks(unittest.TestCase):
    def desk(self, *rows):
        """A desk behind these rows, each answered with ok."""
        desk = Desk()
        for row in rows:
            self.said(desk, row, "ok")
        return desk

    def said(self, desk, row, answer):
        told = desk.say(row)
        self.assertEqual(told, answer, row)
        self.assertIs(type(told), str)

    def refused(self, desk, refusal, row):
        before = view(desk)
        check_refusal(self, refusal, desk.say, row)
        self.assertEqual(view(desk), before)


class Answers(Desks):
    def test_ahead_of_all_deeds(self):
        desk = self.desk(f"rows a 2 {TEXT}")
        for row, answer in (
            ("may a", "2"), ("has a 0", "5:a, 3:b, 9:c, 1:d"), ("has a 1", "4:e, 2:f"), ("room a 0", "4 4"),
            ("room a 1", "2 2"), ("compared a 0", "0"), ("bound a", "8"), ("sizes a", "3 3"), ("keys a", "3 3"),
            ("kth a 0", "1:d 5"), ("kth a 4", "5:a 1"), ("kth a 5", "9:c 2"), ("names", "a"),
        ):
            self.said(desk, row, answer)
        self.refused(desk, NoDeed, "end a")

    def test_deed_by_deed(self):
        desk = self.desk(f"rows a 2 {TEXT}")
        for row, may in (
            ("sort a 1", 2), ("give a 1", 1), ("sort a 0", 1), ("give a 0", 1), ("post a", 2), ("cut a 0", 2),
            ("take a 0 1", 1), ("cut a 1", 2), ("merge a 1", 1), ("take a 1 0", 1), ("merge a 0", 0),
        ):
            self.said(desk, row, "ok")
            self.said(desk, "may a", str(may))
            if row == "sort a 0":
                self.said(desk, "has a 0", "1:d, 3:b, 5:a, 9:c")
                # Runs 5, 3 9 and 1: the first two are merged with two comparisons, then all with one.
                self.said(desk, "compared a 0", "3")
            if row == "cut a 0":
                self.said(desk, "has a 0", "1:d, 3:b")
                self.said(desk, "room a 0", "2 4")
            if row == "take a 0 1":
                self.said(desk, "has a 1", "2:f, 4:e")
                self.said(desk, "room a 1", "4 4")
            if row == "merge a 1":
                self.said(desk, "has a 1", "4:e, 5:a, 9:c")
                self.said(desk, "room a 1", "3 4")
            if row != "merge a 0":
                self.refused(desk, NoDeed, "end a")
        self.said(desk, "has a 0", "1:d, 2:f, 3:b")
        self.said(desk, "room a 0", "3 4")
        self.said(desk, "end a", "1:d, 2:f, 3:b, 4:e, 5:a, 9:c")
        # What is told of the rows as handed in stays behind all.
        for row, answer in (("sizes a", "3 3"), ("keys a", "3 3"), ("bound a", "8"), ("kth a 0", "1:d 5")):
            self.said(desk, row, answer)

    def test_all(self):
        desk = self.desk(f"rows a 2 {TEXT}", "all a")
        self.said(desk, "may a", "0")
        self.said(desk, "end a", "1:d, 2:f, 3:b, 4:e, 5:a, 9:c")
        self.said(desk, "all a", "ok")
        self.said(desk, "end a", "1:d, 2:f, 3:b, 4:e, 5:a, 9:c")

    def test_all_behind_some_deeds(self):
        for seed in range(12):
            rows = mixed_rows(f"all {seed}", 1 + seed % 6, 9)
            sorting = Sorting(rows, 3)
            desk = self.desk(f"rows a 3 {written_rows(rows)}")
            dice = random.Random(seed)
            for turn in range(dice.randint(0, 3 * len(rows))):
                if sorting.may_do():
                    deed = dice.choice(sorting.may_do())
                    sorting.do_deed(deed)
                    self.said(desk, row_for(deed), "ok")
            do_all(sorting)
            self.said(desk, "all a", "ok")
            self.said(desk, "end a", written(sorting.all_in_order()))
            for h in range(len(rows)):
                self.said(desk, f"room a {h}", "{} {}".format(*sorting.room_of(h)))
                self.said(desk, f"compared a {h}", str(sorting.compared_by(h)))

    def test_all_does_always_the_first_one_told(self):
        # Letters that come ahead of the cut would need more room: a cut is told ahead of a take.
        desk = self.desk("rows a 3 10:a, 11:b, 12:c; 1:d, 2:e, 3:f", "all a")
        self.said(desk, "room a 0", "3 3")
        self.said(desk, "room a 1", "3 3")
        desk = self.desk("rows a 3 10:a, 11:b, 12:c; 1:d, 2:e, 3:f")
        for row in ("sort a 0", "sort a 1", "give a 0", "give a 1", "post a", "cut a 0", "take a 0 1", "all a"):
            self.said(desk, row, "ok")
        self.said(desk, "room a 1", "3 6")

    def test_sizes_by_names_and_by_keys(self):
        desk = self.desk("rows a 2 0:a, 1:b; 1:c, 2:d")
        self.said(desk, "sizes a", "2 2")
        self.said(desk, "keys a", "1 3")

    def test_rows_without_things(self):
        desk = self.desk("rows a 1 -", "rows b 8 -; -; -")
        for row, answer in (
            ("has a 0", "-"), ("room a 0", "0 0"), ("bound a", "0"), ("sizes a", "0"), ("keys b", "0 0 0"),
            ("all a", "ok"), ("all b", "ok"), ("end a", "-"), ("end b", "-"), ("has b 2", "-"), ("may b", "0"),
        ):
            self.said(desk, row, answer)
        self.refused(desk, NoNumber, "kth a 0")

    def test_great_keys(self):
        desk = self.desk(f"rows a 4 {GREAT}:a, {-GREAT}:b", "all a")
        self.said(desk, "end a", f"{-GREAT}:b, {GREAT}:a")
        self.said(desk, "kth a 1", f"{GREAT}:a 1")

    def test_every_number_of_samples(self):
        for s in range(1, 9):
            desk = self.desk(f"rows a {s} {TEXT}")
            self.said(desk, "bound a", str(bound_by_words([4, 2], s)))

    def test_long_texts(self):
        text = "; ".join([", ".join(f"{(place * 7 + hand) % 9}:a" for place in range(120)) for hand in range(6)])
        self.assertGreater(len(text), 3500)
        desk = self.desk(f"rows a 8 {text}", "all a")
        plain = written(sorted(thing for row in read_by_pattern(text) for thing in row))
        self.said(desk, "end a", plain)


class Names(Desks):
    def test_none(self):
        desk = Desk()
        self.said(desk, "names", "none")
        self.assertEqual(desk.names(), [])
        self.assertIs(type(desk.names()), list)

    def test_in_the_order_of_letters(self):
        desk = self.desk(*[f"rows {name} 1 -" for name in ("b", "a", "zz", "ab", "z", "none", "abcdefgh", "all")])
        self.assertEqual(desk.names(), ["a", "ab", "abcdefgh", "all", "b", "none", "z", "zz"])
        self.said(desk, "names", "a ab abcdefgh all b none z zz")

    def test_words_of_the_desk_as_names(self):
        desk = self.desk(*[f"rows {word} 2 {TEXT}" for word in WORDS])
        self.assertEqual(desk.names(), sorted(WORDS))
        for word in WORDS:
            self.said(desk, f"sort {word} 0", "ok")
            self.said(desk, f"may {word}", "2")
            self.said(desk, f"drop {word}", "ok")
        self.said(desk, "names", "none")

    def test_a_name_that_stands_already(self):
        desk = self.desk(f"rows a 2 {TEXT}", "all a", "rows b 1 1:x", "rows a 1 7:z, 6:y")
        self.assertEqual(desk.names(), ["a", "b"])
        self.said(desk, "has a 0", "7:z, 6:y")
        self.said(desk, "may a", "1")
        self.refused(desk, NoDeed, "has a 1")
        self.refused(desk, NoDeed, "end a")
        self.said(desk, "has b 0", "1:x")

    def test_a_drop_and_the_name_told_anew(self):
        desk = self.desk(f"rows a 2 {TEXT}", "rows b 2 -", "sort a 0", "drop a")
        self.assertEqual(desk.names(), ["b"])
        for row in ("drop a", "sort a 0", "all a", "may a", "end a", "kth a 0"):
            self.refused(desk, NoName, row)
        self.said(desk, f"rows a 2 {TEXT}", "ok")
        self.said(desk, "has a 0", "5:a, 3:b, 9:c, 1:d")
        self.said(desk, "compared a 0", "0")
        self.said(desk, "names", "a b")
        self.said(desk, "drop a", "ok")
        self.said(desk, "drop b", "ok")
        self.said(desk, "names", "none")

    def test_what_is_told_is_the_askers_own(self):
        desk = self.desk("rows b 1 -", "rows a 1 -")
        told = desk.names()
        told.append("q")
        told.reverse()
        self.assertEqual(desk.names(), ["a", "b"])
        self.assertIsNot(desk.names(), desk.names())
        self.said(desk, "names", "a b")
        kept = desk.names()
        self.said(desk, "drop a", "ok")
        self.assertEqual(kept, ["a", "b"])
        empty = Desk().names()
        empty.append("q")
        self.assertEqual(Desk().names(), [])

    def test_two_desks_know_nothing_of_one_another(self):
        one = self.desk(f"rows a 2 {TEXT}")
        other = self.desk("rows b 1 1:x")
        before = view(other)
        self.said(one, "all a", "ok")
        self.said(one, "rows b 2 -; -", "ok")
        self.assertEqual(view(other), before)
        self.assertEqual((one.names(), other.names()), (["a", "b"], ["b"]))
        self.refused(other, NoName, "may a")
        self.said(other, f"rows a 2 {TEXT}", "ok")
        self.said(other, "may a", "2")
        self.said(one, "may a", "0")

    def test_two_names_know_nothing_of_one_another(self):
        desk = self.desk(f"rows a 2 {TEXT}", f"rows b 2 {TEXT}", "all a")
        self.said(desk, "may b", "2")
        self.said(desk, "has b 0", "5:a, 3:b, 9:c, 1:d")
        self.said(desk, "drop a", "ok")
        self.said(desk, "may b", "2")

    def test_asking_changes_nothing(self):
        desk = self.desk(f"rows a 2 {TEXT}", "sort a 0")
        self.assertEqual(view(desk), view(desk))


class NoRows(Desks):
    def some(self):
        """Rows that are good ones."""
        rows = [f"{word} a" for word in OF_A_NAME] + [f"{word} a 0" for word in OF_A_NUMBER]
        return rows + ["take a 0 1", "names"]

    def bad(self, *rows):
        for desk in (Desk(), self.desk(f"rows a 2 {TEXT}", "rows b 1 -")):
            before = view(desk)
            for row in rows:
                check_refusal(self, NoRow, desk.say, row)
            self.assertEqual(view(desk), before)

    def test_other_words(self):
        self.bad("", "x", "a", "sorts a 0", "sor a 0", "name", "namess", "Names", "NAMES", "row a 2 -", "Rows a 2 -")
        self.bad(*[word.upper() + " a" for word in WORDS], *[word.capitalize() + " a 0" for word in WORDS])
        self.bad("even a", "moves a", "samples a", "posts a", "do a", "NAME", "rows NAME S TEXT", "post NAME", "TEXT")
        self.bad("is a", "done a", "help", "ok", "none", "sort,a,0", "sort:a:0", "sort\ta\t0", "a sort 0", "0 sort a")

    def test_words_more(self):
        self.bad(*[row + more for row in self.some() for more in (" 0", " a", " 0 0", " -", " names", " x y z")])

    def test_words_less(self):
        self.bad(*[word for word in WORDS if word != "names"])
        self.bad(*[f"{word} a" for word in OF_A_NUMBER], "take a", "take a 0", "rows a", "rows a 2", "rows 2 -")
        self.bad(*[f"{word} 0" for word in OF_A_NUMBER + OF_A_NAME], "take 0 1", "rows -")

    def test_blanks(self):
        for row in self.some():
            self.bad(row + " ", " " + row, row + "  ", "  " + row, row + "\n", "\n" + row, row + "\t", "\t" + row)
            for at in [at for at, sign in enumerate(row) if sign == " "]:
                self.bad(*[row[:at] + gap + row[at + 1:] for gap in ("  ", "\t", "\n", ", ", "", "\u00a0")])

    def test_blanks_in_rows_ahead_of_the_text(self):
        self.bad(" rows a 2 -", "rows  a 2 -", "rows a  2 -", "rows\ta 2 -", "rows a\t2 -", "rows a 2\t-", "rows a 2\n-")
        self.bad("rows  2 -", "rows a  -", "rows a 2-", "rowsa 2 -", "\nrows a 2 -")

    def test_numbers_that_are_none(self):
        numbers = ["00", "01", "007", "0000", "0001", "00000", "-1", "-0", "+1", "+0", "10000", "12345", "99999", ""]
        numbers += ["1" * 30, "9" * 4000, "1.0", "1e1", "0x1", "1_0", "a", "x", "1a", "a1", "\u0661", "\u00b2", "\uff11"]
        numbers += ["1\n", "\n1", "1\t", "-", "--1", "1-", "None", "True", "1,", "1\u0661", "0\x00", "1\r"]
        for number in numbers:
            self.bad(*[f"{word} a {number}" for word in OF_A_NUMBER])
            self.bad(f"take a {number} 0", f"take a 0 {number}", f"take a {number} {number}")
            self.bad(f"rows a {number} -", f"rows a {number} x", f"rows a {number} ")

    def test_names_that_are_none(self):
        names = ["", "A", "aB", "Abc", "a1", "1", "0", "abcdefghi", "a" * 4000, "a_b", "a-b", "-", "a.b", "a,b", "a\n"]
        names += ["\na", "a\t", "a:b", "\u00e4", "\u0430", "a\u0301", "\u00aa", "~", "a\x00", "*", "a\r", "NAME"]
        for name in names:
            self.bad(*[f"{word} {name}" for word in OF_A_NAME], *[f"{word} {name} 0" for word in OF_A_NUMBER])
            self.bad(f"take {name} 0 1", f"rows {name} 2 -", f"rows {name} 2 x", f"rows {name} 2 ")

    def test_anything_that_is_no_text(self):
        things = oddities() + [0, 1, True, False, GREAT, 10 ** 5000, [], (), ["names"], ("names",), [["names"]], b"names"]
        things += [("sort", 0), ["rows", "a", "2", "-"], {"names": 1}, bytearray(b"names"), Unhelpful()]
        self.bad(*things)
        self.bad("\ud800", "sort a \ud800", "sort \ud800 0")

    def test_a_sign_more_less_or_another_one(self):
        desk = self.desk(f"rows a 2 {TEXT}")
        for row in self.some() + ["rows a 2 -"]:
            for at in range(len(row) + 1):
                for sign in " \n\t0a-1Z":
                    for changed in (row[:at] + sign + row[at:], row[:at] + sign + row[at + 1:], row[:at] + row[at + 1:]):
                        if not any(re.fullmatch(form, changed, re.DOTALL) for form in FORMS):
                            check_refusal(self, NoRow, desk.say, changed)
        self.said(desk, "may a", "2")
        self.said(desk, "names", "a")


class Order(Desks):
    def test_no_name(self):
        for desk in (Desk(), self.desk(f"rows a 2 {TEXT}", "all a")):
            for name in ("b", "aa", "names", "none", "zzzzzzzz"):
                for word in OF_A_NAME:
                    self.refused(desk, NoName, f"{word} {name}")
                for word in OF_A_NUMBER:
                    # Ahead of a hand that is none, and of a place that is none.
                    for number in (0, 1, 7, 9999):
                        self.refused(desk, NoName, f"{word} {name} {number}")
                self.refused(desk, NoName, f"take {name} 0 1")
                self.refused(desk, NoName, f"take {name} 7 7")

    def test_no_row_ahead_of_no_name(self):
        desk = Desk()
        for row in ("sort b 01", "sort b", "post b 0", "kth b -1", "drop b ", "take b 0 00000"):
            self.refused(desk, NoRow, row)

    def test_no_text(self):
        for name in ("a", "b"):
            desk = self.desk(f"rows a 2 {TEXT}", "sort a 0")
            for text in NO_TEXTS:
                for s in ("1", "2", "8"):
                    self.refused(desk, NoText, f"rows {name} {s} {text}")
            self.refused(desk, NoText, f"rows {name} 2  {TEXT}")
            self.refused(desk, NoText, f"rows {name} 2 {TEXT} ")
            self.refused(desk, NoText, f"rows {name} 2 {TEXT}\n")
            self.refused(desk, NoText, f"rows {name} 2 \n{TEXT}")
            self.refused(desk, NoText, f"rows {name} 2 names\nnames")
            self.said(desk, "has a 0", "1:d, 3:b, 5:a, 9:c")
            self.assertEqual(desk.names(), ["a"])

    def test_no_text_ahead_of_no_number(self):
        desk = self.desk(f"rows a 2 {TEXT}")
        for text in NO_TEXTS:
            for s in ("0", "9", "10", "9999"):
                self.refused(desk, NoText, f"rows a {s} {text}")
                self.refused(desk, NoText, f"rows b {s} {text}")

    def test_no_row_ahead_of_no_text(self):
        desk = self.desk(f"rows a 2 {TEXT}")
        for row in ("rows A 2 x", "rows a 02 x", "rows a -2 x", "rows a 10000 x", "rows  a 2 x", "rows a 2"):
            self.refused(desk, NoRow, row)

    def test_no_number_of_samples(self):
        for name in ("a", "b"):
            desk = self.desk(f"rows a 2 {TEXT}", "sort a 0")
            for s in (0, 9, 10, 64, 1000, 9999):
                self.refused(desk, NoNumber, f"rows {name} {s} {TEXT}")
                self.refused(desk, NoNumber, f"rows {name} {s} -")
            self.said(desk, "has a 0", "1:d, 3:b, 5:a, 9:c")
            self.said(desk, "may a", "2")
            self.assertEqual(desk.names(), ["a"])

    def test_no_place(self):
        desk = self.desk(f"rows a 2 {TEXT}", "rows b 2 -; -; -")
        for k in (6, 7, 10, 200, 9999):
            self.refused(desk, NoNumber, f"kth a {k}")
        for k in (0, 1, 2, 9999):
            self.refused(desk, NoNumber, f"kth b {k}")
        self.said(desk, "all a", "ok")
        self.refused(desk, NoNumber, "kth a 6")

    def test_no_hand(self):
        desk = self.desk(f"rows a 2 {TEXT}", "rows b 2 1:x")
        for turn in range(2):
            for word in ("sort", "give", "cut", "merge", "has", "room", "compared"):
                for h in (2, 3, 5, 6, 10, 9999):
                    self.refused(desk, NoDeed, f"{word} a {h}")
                self.refused(desk, NoDeed, f"{word} b 1")
            for pair in ("0 2", "2 0", "1 9999", "2 2", "0 0", "1 1"):
                self.refused(desk, NoDeed, f"take a {pair}")
            self.said(desk, "all a", "ok")

    def test_what_may_not_be_done(self):
        desk = self.desk(f"rows a 2 {TEXT}")
        sorting = Sorting(read_by_pattern(TEXT), 2)
        for due in steps(sorting, by_seed(5)):
            for deed in all_deeds(2):
                if deed not in sorting.may_do():
                    self.refused(desk, NoDeed, row_for(deed))
            self.refused(desk, NoDeed, "end a")
            self.said(desk, row_for(due), "ok")
            self.refused(desk, NoDeed, row_for(due))
            sorting.do_deed(due)
        self.said(desk, "end a", "1:d, 2:f, 3:b, 4:e, 5:a, 9:c")


class ByWords(Desks):
    def row(self, dice):
        """A row by chance: good ones, and ones that are refused in each way."""
        name = dice.choice(("a", "a", "bc", "zzzzzzzz", "none", "d", "A"))
        number = dice.choice((0, 0, 1, 1, 2, 3, 5, 6, 8, 9, 11, 1200, "01", "-1", ""))
        kind = dice.random()
        if kind < 0.2:
            rows = mixed_rows(dice.random(), dice.randint(1, 6), 4)
            text = dice.choice((written_rows(rows), written_rows(rows), written_rows(rows), dice.choice(NO_TEXTS)))
            return f"rows {name} {number} {text}"
        if kind < 0.3:
            return f"{dice.choice(WORDS + ('x', '', 'Sort'))} {name}{dice.choice(('', ' ', ' 0', ' 0 1', ' 0 1 2'))}"
        if kind < 0.5:
            return f"{dice.choice(OF_A_NAME)} {name}"
        if kind < 0.75:
            return f"{dice.choice(OF_A_NUMBER)} {name} {number}"
        if kind < 0.97:
            return f"take {name} {number} {dice.choice((0, 1, 2, 3))}"
        return "names"

    def test_long_talks(self):
        seen = []
        for seed in range(25):
            dice = random.Random(f"talk {seed}")
            desk = Desk()
            model = DeskByWords()
            before = view(desk)
            for turn in range(80):
                row = self.row(dice)
                told = outcome(desk.say, row)
                self.assertEqual(told, outcome(model.say, row), row)
                self.assertEqual(desk.names(), sorted(model.kept))
                after = view(desk)
                if told != "ok":
                    self.assertEqual(after, before)
                before = after
                seen.append("told" if isinstance(told, str) else told)
        # Each way of ending has come about often.
        for way in ("told", NoRow, NoName, NoText, NoNumber, NoDeed):
            self.assertGreater(seen.count(way), 20, way)

    def test_runs_in_any_order_of_deeds(self):
        for hands in range(1, 7):
            for seed in range(4):
                rows = mixed_rows(f"desk {seed} {hands}", hands, 12)
                desk = self.desk(f"rows a {seed + 1} {written_rows(rows)}")
                model = DeskByWords()
                model.say(f"rows a {seed + 1} {written_rows(rows)}")
                deeds = [row_for(deed) for deed in all_deeds(hands)]
                random.Random(seed).shuffle(deeds)
                # Six rounds through all deeds: each does what may be done then.
                for deed in deeds * 6:
                    self.assertEqual(outcome(desk.say, deed), outcome(model.say, deed))
                self.said(desk, "may a", "0")
                self.assertEqual(view(desk)[2:], self.model_view(model))

    def model_view(self, model):
        told = [outcome(model.say, f"{word} a") for word in ("may", "bound", "sizes", "keys", "end")]
        told += [outcome(model.say, f"{word} a {h}") for word in ("has", "room", "compared") for h in range(7)]
        return told + [outcome(model.say, f"kth a {k}") for k in (0, 1, 5)]


if __name__ == "__main__":
    unittest.main()
