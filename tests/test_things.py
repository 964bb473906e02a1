"""[2], [5], [6]: things, rows of hands, plain sorting."""

import copy
import itertools
import unittest

from evenlots.things import are_rows, names_plainly, sorted_plainly
from making import listed_by_insertion, oddities

GOOD = (3, "abc")
FIGURES = "123456789012345678901234567890"
GREAT = int(FIGURES)


class RowsOfHands(unittest.TestCase):
    def yes(self, thing):
        self.assertIs(are_rows(thing), True, thing)

    def no(self, thing):
        self.assertIs(are_rows(thing), False)

    def no_thing(self, thing):
        for row in ([thing], [thing, GOOD], [GOOD, thing], [GOOD, thing, GOOD]):
            self.no([row])
            self.no([[], row])
            self.no([row, [GOOD]])

    def test_ordinary_rows(self):
        self.yes([[(3, "a"), (1, "bc")], [], [(2, "zzzzzzzz")]])

    def test_one_to_six_rows(self):
        for many in range(1, 7):
            self.yes([[] for hand in range(many)])
            self.yes([[GOOD] for hand in range(many)])

    def test_no_rows_and_more_than_six(self):
        for many in (0, 7, 8, 100):
            self.no([[] for hand in range(many)])
            self.no([[GOOD] for hand in range(many)])

    def test_the_same_row_twice_is_rows(self):
        row = [GOOD]
        self.yes([row, row])

    def test_keys(self):
        for key in (0, -1, 1, GREAT, -GREAT, GREAT * 10 + 1):
            self.yes([[(key, "a")]])

    def test_truths_are_no_keys(self):
        self.no_thing((True, "a"))
        self.no_thing((False, "a"))

    def test_keys_of_other_kinds(self):
        for key in oddities() + ["1", "", "a", [1], (1,), [], ()]:
            self.no_thing((key, "a"))

    def test_tags_of_one_to_eight_letters(self):
        for many in range(1, 9):
            self.yes([[(1, "abcdefgz"[:many])]])
        for letter in "abcdefghijklmnopqrstuvwxyz":
            self.yes([[(1, letter)]])

    def test_tags_that_are_empty_or_too_long(self):
        for many in (0, 9, 10, 4000):
            self.no_thing((1, "a" * many))

    def test_signs_that_are_no_small_letters_at_any_place(self):
        ascii_signs = [chr(number) for number in range(128) if not 97 <= number <= 122]
        others = ["\u00e4", "\u00df", "\u0131", "\u03b1", "\u0430", "\uff41", "\u00aa", "\u0301", "\ud800", "\U0001d41a"]
        for sign in ascii_signs + others:
            for tag in (sign, sign + "ab", "a" + sign + "b", "ab" + sign, "abcdefg" + sign):
                self.no([[(1, tag)]])

    def test_tags_of_other_kinds(self):
        for tag in oddities() + [1, 0, True, ["a"], ("a",), [], ()]:
            self.no_thing((1, tag))

    def test_things_with_a_part_more_or_less(self):
        for thing in ((), (1,), ("a",), (1, "a", "b"), (1, 2, "a"), (1, "a", None), ((1, "a"),), ("a", 1)):
            self.no_thing(thing)

    def test_a_list_where_a_tuple_is_due(self):
        self.no_thing([1, "a"])
        self.no_thing([])

    def test_a_tuple_where_a_list_is_due(self):
        self.no(([GOOD],))
        self.no([(GOOD,)])
        self.no([()])
        self.no(())
        self.no([[], (), []])
        self.no([(1, "a")])

    def test_one_row_is_not_rows(self):
        self.no([GOOD])
        self.no([GOOD, GOOD])
        self.no([[[GOOD]]])

    def test_things_of_other_kinds(self):
        for thing in oddities() + [1, True, False, "a", "", "3:a"]:
            self.no(thing)
            self.no([thing])
            self.no([[], thing])
            self.no([thing, []])
            self.no_thing(thing)

    def test_a_list_that_holds_itself(self):
        thing = []
        thing.append(thing)
        self.no(thing)

    def test_long_rows(self):
        row = [(place - 700, "ab") for place in range(1400)]
        self.yes([row])
        self.yes([row] * 6)
        self.no([row] * 7)

    def test_long_rows_with_one_bad_thing(self):
        for bad in ((True, "a"), (1, "A"), [1, "a"], (1,), None):
            for place in (0, 1, 199, 200, 250, 299):
                row = [(number, "ab") for number in range(300)]
                row[place] = bad
                self.no([row])
                self.no([[], [], [], [], [], row])

    def test_what_is_handed_in_stays(self):
        rows = [[(3, "a"), (1, "b")], [], [(True, "a")]]
        before = copy.deepcopy(rows)
        self.no(rows)
        self.no(rows)
        self.assertEqual(repr(rows), repr(before))


class PlainSorting(unittest.TestCase):
    def check(self, rows):
        before = copy.deepcopy(rows)
        pairs = listed_by_insertion(rows)
        things = sorted_plainly(rows)
        names = names_plainly(rows)
        self.assertEqual(things, [thing for name, thing in pairs])
        self.assertEqual(names, [name for name, thing in pairs])
        self.assertIs(type(things), list)
        self.assertIs(type(names), list)
        for told in things + names:
            self.assertIs(type(told), tuple)
        self.assertEqual(rows, before)

    def test_ordinary_rows(self):
        rows = [[(3, "c"), (1, "a")], [(2, "b")]]
        self.assertEqual(sorted_plainly(rows), [(1, "a"), (2, "b"), (3, "c")])
        self.assertEqual(names_plainly(rows), [(1, 0, 1), (2, 1, 0), (3, 0, 0)])

    def test_like_keys_go_by_hands_then_by_places_never_by_tags(self):
        rows = [[(1, "z"), (0, "m"), (1, "y")], [(1, "b"), (1, "a")], [(0, "a")]]
        self.assertEqual(sorted_plainly(rows), [(0, "m"), (0, "a"), (1, "z"), (1, "y"), (1, "b"), (1, "a")])
        self.assertEqual(
            names_plainly(rows), [(0, 0, 1), (0, 2, 0), (1, 0, 0), (1, 0, 2), (1, 1, 0), (1, 1, 1)]
        )

    def test_empty_rows(self):
        for many in range(1, 7):
            self.assertEqual(sorted_plainly([[] for hand in range(many)]), [])
            self.assertEqual(names_plainly([[] for hand in range(many)]), [])

    def test_empty_rows_count_as_hands(self):
        rows = [[], [(5, "a")], [], [(5, "b")], [], []]
        self.assertEqual(names_plainly(rows), [(5, 1, 0), (5, 3, 0)])
        self.assertEqual(sorted_plainly(rows), [(5, "a"), (5, "b")])

    def test_keys_below_0_and_of_thirty_figures(self):
        rows = [[(GREAT, "a"), (-1, "b"), (0, "c")], [(-GREAT, "d"), (GREAT - 1, "e"), (-GREAT - 1, "f"), (-10, "g")]]
        self.assertEqual("".join(tag for key, tag in sorted_plainly(rows)), "fdgbcea")
        self.check(rows)

    def test_all_small_rows(self):
        keys = [-1, 0, 1]
        small = [list(row) for many in range(4) for row in itertools.product(keys, repeat=many)]
        for one, other in itertools.product(small, repeat=2):
            self.check([[(key, "zyx"[place]) for place, key in enumerate(row)] for row in (one, other)])

    def test_rows_of_two_hundred_things_and_more(self):
        for many in (200, 1000):
            for spread in (1, 2, 7, 101, 100003):
                rows = [
                    [((place * place * 31 + hand * 17) % spread - spread // 2, "ab") for place in range(many // 5)]
                    for hand in range(5)
                ]
                self.check(rows)
                self.check([rows[0] * 5])

    def test_six_rows_of_two_hundred(self):
        rows = [[((place * 7919 + hand) % 50, "qwertyui"[hand:]) for place in range(200)] for hand in range(6)]
        self.assertEqual(sorted_plainly(rows), sorted(itertools.chain(*rows), key=lambda thing: thing[0]))
        names = names_plainly(rows)
        self.assertEqual(names, sorted(names))
        self.assertEqual([(rows[hand][place]) for key, hand, place in names], sorted_plainly(rows))

    def test_the_same_row_handed_in_twice(self):
        row = [(2, "b"), (1, "a")]
        self.check([row, row])

    def test_a_sorted_row_is_told_as_a_new_list(self):
        rows = [[(1, "a"), (2, "b")]]
        told = sorted_plainly(rows)
        self.assertIsNot(told, rows[0])
        told.append((3, "c"))
        self.assertEqual(rows, [[(1, "a"), (2, "b")]])

    def test_what_is_told_is_the_askers_own(self):
        rows = [[(2, "b"), (1, "a")], []]
        for asked in (sorted_plainly, names_plainly):
            first = asked(rows)
            kept = list(first)
            second = asked(rows)
            self.assertEqual(second, kept)
            self.assertIsNot(second, first)
            first.reverse()
            first.append("more")
            self.assertEqual(second, kept)
            self.assertEqual(asked(rows), kept)
        empty = sorted_plainly([[]])
        empty.append("more")
        self.assertEqual(sorted_plainly([[]]), [])

    def test_nothing_is_kept_of_what_was_handed_in(self):
        rows = [[(2, "b")], [(1, "a")]]
        told = sorted_plainly(rows)
        names = names_plainly(rows)
        rows[0].append((0, "c"))
        rows[1].clear()
        self.assertEqual(told, [(1, "a"), (2, "b")])
        self.assertEqual(names, [(1, 1, 0), (2, 0, 0)])
        self.check(rows)


if __name__ == "__main__":
    unittest.main()
