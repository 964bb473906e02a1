"""[2], [7], [8]: runs, merging, sorting by runs."""

import copy
import itertools
import unittest

from evenlots.runs import merged_rows, runs_of, sorted_by_runs
from making import GREAT, by_keys, compared_in_merging, compared_in_sorting, least_exponent, tagged


def small_rows(most, keys=(-1, 0, 1)):
    for many in range(most + 1):
        for chosen in itertools.product(keys, repeat=many):
            yield tagged(chosen)


def long_rows():
    for many in (100, 199, 200):
        for spread in (1, 2, 5, 64, 100003):
            yield tagged([(place * place * 31 + place * 7) % spread - spread // 2 for place in range(many)])
        yield tagged(range(many))
        yield tagged(range(many, 0, -1))


class Runs(unittest.TestCase):
    def check(self, row):
        before = list(row)
        runs = runs_of(row)
        self.assertEqual(row, before)
        self.assertIs(type(runs), list)
        self.assertEqual(list(itertools.chain(*runs)), row)
        for run in runs:
            self.assertIs(type(run), list)
            self.assertTrue(run)
            self.assertIsNot(run, row)
            self.assertEqual(run, by_keys(run))
        for run, following in zip(runs, runs[1:]):
            self.assertLess(following[0][0], run[-1][0])
        self.assertEqual(len(set(map(id, runs))), len(runs))

    def test_ordinary_row(self):
        self.assertEqual(
            runs_of([(1, "a"), (3, "b"), (2, "c"), (5, "d"), (4, "e")]),
            [[(1, "a"), (3, "b")], [(2, "c"), (5, "d")], [(4, "e")]],
        )

    def test_of_no_things_none(self):
        self.assertEqual(runs_of([]), [])

    def test_of_one_thing_one(self):
        self.assertEqual(runs_of([(0, "a")]), [[(0, "a")]])

    def test_like_keys_go_on_a_run(self):
        self.assertEqual(runs_of([(2, "z"), (2, "a"), (2, "m")]), [[(2, "z"), (2, "a"), (2, "m")]])

    def test_a_falling_row(self):
        self.assertEqual(runs_of([(1, "a"), (0, "b"), (-1, "c")]), [[(1, "a")], [(0, "b")], [(-1, "c")]])

    def test_great_keys(self):
        row = [(-GREAT, "a"), (GREAT - 1, "b"), (GREAT, "c"), (GREAT - 1, "d"), (-GREAT, "e")]
        self.assertEqual(runs_of(row), [row[:3], row[3:4], row[4:]])

    def test_all_small_rows(self):
        for row in small_rows(6):
            self.check(row)

    def test_long_rows(self):
        for row in long_rows():
            self.check(row)

    def test_what_is_told_is_the_askers_own(self):
        row = [(1, "a"), (2, "b"), (0, "c")]
        runs = runs_of(row)
        runs[0].append((9, "x"))
        runs[1].clear()
        runs.pop()
        self.assertEqual(row, [(1, "a"), (2, "b"), (0, "c")])
        self.assertEqual(runs_of(row), [[(1, "a"), (2, "b")], [(0, "c")]])
        runs_of([]).append("more")
        self.assertEqual(runs_of([]), [])

    def test_a_row_of_one_run_is_told_as_a_new_list(self):
        row = [(1, "a"), (2, "b")]
        runs = runs_of(row)
        runs[0].append((3, "c"))
        self.assertEqual(row, [(1, "a"), (2, "b")])
        row.clear()
        self.assertEqual(runs, [[(1, "a"), (2, "b"), (3, "c")]])


class Merging(unittest.TestCase):
    def check(self, one, other):
        before = (list(one), list(other))
        told = merged_rows(one, other)
        self.assertIs(type(told), tuple)
        self.assertEqual(len(told), 2)
        self.assertIs(type(told[0]), list)
        self.assertIs(type(told[1]), int)
        self.assertEqual(told[0], by_keys(one + other))
        self.assertEqual(told[1], compared_in_merging(one, other))
        self.assertEqual((one, other), before)
        self.assertIsNot(told[0], one)
        self.assertIsNot(told[0], other)

    def test_ordinary_rows(self):
        self.assertEqual(
            merged_rows([(1, "a"), (4, "b")], [(2, "c"), (3, "d"), (5, "e")]),
            ([(1, "a"), (2, "c"), (3, "d"), (4, "b"), (5, "e")], 4),
        )

    def test_how_often_is_compared(self):
        low = tagged([0, 1, 2])
        high = tagged([5, 6])
        self.assertEqual(merged_rows(low, high)[1], 3)
        self.assertEqual(merged_rows(high, low)[1], 3)
        self.assertEqual(merged_rows(tagged([0, 2, 4]), tagged([1, 3]))[1], 4)
        self.assertEqual(merged_rows(tagged([1, 3]), tagged([0, 2, 4]))[1], 4)
        self.assertEqual(merged_rows(tagged([7]), tagged([7, 7, 7]))[1], 1)
        self.assertEqual(merged_rows(tagged([7, 7, 7]), tagged([7]))[1], 3)

    def test_of_like_keys_the_first_rows_goes_first(self):
        self.assertEqual(
            merged_rows([(1, "z"), (1, "y")], [(1, "b"), (1, "a")]),
            ([(1, "z"), (1, "y"), (1, "b"), (1, "a")], 2),
        )

    def test_rows_without_things(self):
        self.assertEqual(merged_rows([], []), ([], 0))
        self.assertEqual(merged_rows([(1, "a"), (2, "b")], []), ([(1, "a"), (2, "b")], 0))
        self.assertEqual(merged_rows([], [(1, "a"), (2, "b")]), ([(1, "a"), (2, "b")], 0))

    def test_all_small_rows(self):
        rows = [row for row in small_rows(4, (-1, 0, 1, 2)) if row == by_keys(row)]
        for one, other in itertools.product(rows, repeat=2):
            self.check(one, [(key, "q" + tag) for key, tag in other])

    def test_great_keys(self):
        self.check(tagged([-GREAT, 0, GREAT]), tagged([-GREAT + 1, GREAT - 1, GREAT]))

    def test_rows_of_several_hundred_things(self):
        for many in (201, 700):
            for spread in (1, 3, 50, 100003):
                one = by_keys(tagged([place * 7919 % spread for place in range(many)]))
                other = by_keys(tagged([place * 104729 % spread for place in range(many // 2)]))
                self.check(one, other)
                self.check(other, one)
                self.check(one, [])
                self.check([], one)

    def test_a_row_with_itself(self):
        row = tagged([1, 2, 3])
        self.check(row, row)

    def test_what_is_told_is_the_askers_own(self):
        for one, other in (([(1, "a")], [(2, "b")]), ([(1, "a")], []), ([], [(1, "a")]), ([], [])):
            before = copy.deepcopy((one, other))
            told = merged_rows(one, other)
            kept = copy.deepcopy(told)
            told[0].append((9, "x"))
            self.assertEqual((one, other), before)
            self.assertEqual(merged_rows(one, other), kept)


class Sorting(unittest.TestCase):
    def check(self, row):
        before = list(row)
        told = sorted_by_runs(row)
        self.assertIs(type(told), tuple)
        self.assertEqual(len(told), 2)
        self.assertIs(type(told[0]), list)
        self.assertIs(type(told[1]), int)
        self.assertEqual(told[0], by_keys(row))
        self.assertEqual(told[1], compared_in_sorting(row))
        self.assertEqual(row, before)
        self.assertIsNot(told[0], row)
        self.assertLessEqual(told[1], len(row) * least_exponent(len(runs_of(row))))

    def test_of_no_things(self):
        self.assertEqual(sorted_by_runs([]), ([], 0))

    def test_one_run_compares_nothing(self):
        for keys in ([0], [1, 1, 1], [-5, 0, 7], range(200)):
            row = tagged(keys)
            self.assertEqual(sorted_by_runs(row), (row, 0))

    def test_two_runs(self):
        self.assertEqual(
            sorted_by_runs([(2, "a"), (4, "b"), (1, "c"), (3, "d")]),
            ([(1, "c"), (2, "a"), (3, "d"), (4, "b")], 3),
        )

    def test_three_runs_the_last_as_it_is(self):
        # (3)+(2) compares once; (2, 3)+(1) once more. Another pairing, (2)+(1) first, then (3)+(1, 2), compares 1 + 2.
        self.assertEqual(sorted_by_runs(tagged([3, 2, 1]))[1], 2)

    def test_four_runs(self):
        # (4)+(3) and (2)+(1) once each, then (3, 4)+(1, 2) twice; one by one it would be 1 + 1 + 1.
        self.assertEqual(sorted_by_runs(tagged([4, 3, 2, 1]))[1], 4)

    def test_five_runs_the_last_waits_twice(self):
        # Four as above, then (2, 3, 4, 5)+(1) once.
        self.assertEqual(sorted_by_runs(tagged([5, 4, 3, 2, 1]))[1], 5)

    def test_six_runs_the_odd_pair_waits_once(self):
        # Three pairs once each, (5, 6)+(3, 4) twice, (1, 2) waits, then (3, 4, 5, 6)+(1, 2) twice.
        self.assertEqual(sorted_by_runs(tagged([6, 5, 4, 3, 2, 1]))[1], 7)

    def test_like_keys_stay_in_their_order(self):
        row = [(1, "d"), (0, "c"), (1, "b"), (0, "a"), (1, "a"), (0, "z")]
        self.assertEqual(
            sorted_by_runs(row)[0], [(0, "c"), (0, "a"), (0, "z"), (1, "d"), (1, "b"), (1, "a")]
        )

    def test_all_small_rows(self):
        for row in small_rows(7):
            self.check(row)
        for keys in itertools.permutations(range(7)):
            self.check(tagged(keys))

    def test_long_rows(self):
        for row in long_rows():
            self.check(row)

    def test_great_keys(self):
        self.check(tagged([GREAT, -GREAT, 0, GREAT - 1, -GREAT, GREAT]))

    def test_what_is_told_is_the_askers_own(self):
        for keys in ([], [1, 2], [2, 1], [3, 2, 1]):
            row = tagged(keys)
            told = sorted_by_runs(row)
            kept = copy.deepcopy(told)
            told[0].append((9, "x"))
            self.assertEqual(row, tagged(keys))
            self.assertEqual(sorted_by_runs(row), kept)

    def test_nothing_is_kept_of_what_was_handed_in(self):
        row = tagged([1, 2])
        told = sorted_by_runs(row)
        row.clear()
        self.assertEqual(told, (tagged([1, 2]), 0))
        self.assertEqual(sorted_by_runs(row), ([], 0))


if __name__ == "__main__":
    unittest.main()
