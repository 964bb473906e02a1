"""[2], [3], [6], [9], [10], [11]: samples, posts, and the bound."""

import copy
import itertools
import unittest

from evenlots.errors import NoNumber
from evenlots.posts import lot_bound, posts_of, samples_of
from making import (
    GREAT, NO_SAMPLES, bound_by_words, check_no_samples, check_refusal, mixed_rows, names_by_insertion,
    posts_by_words, samples_by_words, small_rows_of_hands, tagged_rows,
)


class Asked(unittest.TestCase):
    """What samples_of and posts_of have in common."""

    def own(self, ask):
        for keys_of_hands in ([[3, 1, 2], [1, 1]], [[], []], [[1]]):
            rows = tagged_rows(keys_of_hands)
            first = ask(rows, 2)
            kept = list(first)
            second = ask(rows, 2)
            self.assertEqual(second, kept)
            self.assertIsNot(second, first)
            first.append((9, 9, 9))
            first.reverse()
            self.assertEqual(second, kept)
            self.assertEqual(ask(rows, 2), kept)
            rows[0].append((0, "a"))
            rows.pop()
            self.assertEqual(second, kept)

    def check(self, ask, by_words, rows, s):
        before = copy.deepcopy(rows)
        told = ask(rows, s)
        self.assertEqual(told, by_words(rows, s), (rows, s))
        self.assertIs(type(told), list)
        for name in told:
            self.assertIs(type(name), tuple)
            self.assertEqual([type(part) for part in name], [int, int, int])
        self.assertEqual(rows, before)

    def check_many(self, ask, by_words):
        for s in (1, 2, 3, 8):
            for rows in small_rows_of_hands(2, 3, (-1, 0)):
                self.check(ask, by_words, rows, s)
            for rows in small_rows_of_hands(3, 2, (0, 1)):
                self.check(ask, by_words, rows, s)
        for hands in range(1, 7):
            for s in range(1, 9):
                for seed in range(6):
                    self.check(ask, by_words, mixed_rows(f"{seed} {hands} {s}", hands, 40), s)


class Samples(Asked):
    def test_ordinary_rows(self):
        rows = tagged_rows([[5, 3, 9, 1], [4, 2]])
        # Sorted: 1 3 5 9, of which those at 0 and 2; 2 4, of which those at 0 and 1.
        self.assertEqual(samples_of(rows, 2), [(1, 0, 3), (2, 1, 1), (4, 1, 0), (5, 0, 0)])

    def test_places_are_rounded_down(self):
        rows = tagged_rows([range(10, 17)])
        for s, places in (
            (1, [0]), (2, [0, 3]), (3, [0, 2, 4]), (4, [0, 1, 3, 5]), (5, [0, 1, 2, 4, 5]), (6, [0, 1, 2, 3, 4, 5]),
            (7, [0, 1, 2, 3, 4, 5, 6]), (8, [0, 1, 2, 3, 4, 5, 6]),
        ):
            self.assertEqual(samples_of(rows, s), [(10 + place, 0, place) for place in places])

    def test_of_no_things_none(self):
        for hands in range(1, 7):
            for s in range(1, 9):
                self.assertEqual(samples_of([[] for hand in range(hands)], s), [])

    def test_hands_without_things_beside_others(self):
        rows = tagged_rows([[], [7], [], [6], []])
        self.assertEqual(samples_of(rows, 3), [(6, 3, 0), (7, 1, 0)])

    def test_fewer_things_than_asked_for_each_once(self):
        for many in range(1, 8):
            rows = tagged_rows([range(many, 0, -1)])
            self.assertEqual(samples_of(rows, 8), [(key, 0, many - key) for key in range(1, many + 1)])

    def test_as_many_things_as_asked_for(self):
        for s in range(1, 9):
            rows = tagged_rows([range(s)])
            self.assertEqual(samples_of(rows, s), [(key, 0, key) for key in range(s)])

    def test_one_more_than_asked_for(self):
        self.assertEqual(samples_of(tagged_rows([range(9)]), 8), [(key, 0, key) for key in range(8)])
        self.assertEqual(samples_of(tagged_rows([range(2)]), 1), [(0, 0, 0)])

    def test_names_tell_places_as_handed_in(self):
        rows = tagged_rows([[9, 8, 7, 6], [9, 8, 7, 6]])
        self.assertEqual(samples_of(rows, 2), [(6, 0, 3), (6, 1, 3), (8, 0, 1), (8, 1, 1)])

    def test_like_keys_go_by_hands_and_places_never_by_tags(self):
        rows = [[(1, "z"), (1, "y"), (0, "x"), (1, "a")], [(1, "b"), (1, "a")]]
        self.assertEqual(
            samples_of(rows, 4), [(0, 0, 2), (1, 0, 0), (1, 0, 1), (1, 0, 3), (1, 1, 0), (1, 1, 1)]
        )
        self.assertEqual(samples_of(rows, 2), [(0, 0, 2), (1, 0, 1), (1, 1, 0), (1, 1, 1)])

    def test_like_things(self):
        rows = [[(1, "a")] * 5, [(1, "a")] * 3]
        self.assertEqual(samples_of(rows, 2), [(1, 0, 0), (1, 0, 2), (1, 1, 0), (1, 1, 1)])

    def test_sorted_over_all_hands(self):
        rows = tagged_rows([[30, 10], [20, -5], [25, 15]])
        self.assertEqual(
            samples_of(rows, 2), [(-5, 1, 1), (10, 0, 1), (15, 2, 1), (20, 1, 0), (25, 2, 0), (30, 0, 0)]
        )

    def test_great_keys(self):
        rows = tagged_rows([[GREAT, -GREAT, 0], [GREAT - 1]])
        self.assertEqual(samples_of(rows, 8), [(-GREAT, 0, 1), (0, 0, 2), (GREAT - 1, 1, 0), (GREAT, 0, 0)])

    def test_six_rows_of_two_hundred(self):
        rows = tagged_rows([[place * 7919 % 211 - hand for place in range(200)] for hand in range(6)])
        for s in (1, 7, 8):
            samples = samples_of(rows, s)
            self.assertEqual(len(samples), 6 * s)
            self.check(samples_of, samples_by_words, rows, s)

    def test_by_words(self):
        self.check_many(samples_of, samples_by_words)

    def test_each_name_once_and_of_a_thing(self):
        for seed in range(60):
            rows = mixed_rows(seed, 1 + seed % 6, 30)
            samples = samples_of(rows, 1 + seed % 8)
            self.assertEqual(len(set(samples)), len(samples))
            self.assertLessEqual(set(samples), set(names_by_insertion(rows)))
            self.assertEqual(len(samples), sum(min(len(row), 1 + seed % 8) for row in rows))

    def test_refused(self):
        check_no_samples(self, samples_of)

    def test_what_is_told_is_the_askers_own(self):
        self.own(samples_of)


class Posts(Asked):
    def test_ordinary_rows(self):
        rows = tagged_rows([[5, 3, 9, 1], [4, 2]])
        # Samples 1 2 4 5, the one at 1 * 4 // 2.
        self.assertEqual(posts_of(rows, 2), [(4, 1, 0)])
        rows = tagged_rows([[30, 10], [20, -5], [25, 15]])
        # Samples -5 10 15 20 25 30, those at 2 and 4.
        self.assertEqual(posts_of(rows, 2), [(15, 2, 1), (25, 2, 0)])

    def test_places_are_rounded_down(self):
        rows = tagged_rows([[1, 2, 3, 4, 5], [], []])
        # Of five those at 5 // 3 and 10 // 3.
        self.assertEqual(posts_of(rows, 5), [(2, 0, 1), (4, 0, 3)])

    def test_one_hand_has_none(self):
        for keys in ([], [1], range(20)):
            for s in range(1, 9):
                self.assertEqual(posts_of(tagged_rows([keys]), s), [])

    def test_no_things_at_all(self):
        for hands in range(1, 7):
            for s in (1, 8):
                self.assertEqual(posts_of([[] for hand in range(hands)], s), [])

    def test_posts_that_are_alike(self):
        self.assertEqual(posts_of([[], [(7, "a")], []], 4), [(7, 1, 0), (7, 1, 0)])
        self.assertEqual(posts_of([[(7, "a")], [(3, "b")], [], []], 1), [(3, 1, 0), (7, 0, 0), (7, 0, 0)])
        self.assertEqual(posts_of([[], [], [], [], [], [(7, "a")]], 8), [(7, 5, 0)] * 5)

    def test_one_less_than_hands_where_there_are_samples(self):
        for hands in range(1, 7):
            for holder in range(hands):
                for many in (1, 2, 5, 20):
                    rows = [[] for hand in range(hands)]
                    rows[holder] = [(place, "a") for place in range(many)]
                    for s in (1, 3, 8):
                        self.assertEqual(len(posts_of(rows, s)), hands - 1)

    def test_names_tell_places_as_handed_in(self):
        self.assertEqual(posts_of(tagged_rows([[4, 3, 2, 1], []]), 4), [(3, 0, 1)])

    def test_like_keys(self):
        self.assertEqual(posts_of([[(1, "z")] * 4, [(1, "a")] * 4], 4), [(1, 1, 0)])
        self.assertEqual(posts_of([[(1, "z")] * 4, [(1, "a")] * 2], 4), [(1, 0, 3)])

    def test_posts_do_not_fall(self):
        for seed in range(60):
            posts = posts_of(mixed_rows(seed, 1 + seed % 6, 30), 1 + seed % 8)
            self.assertEqual(posts, sorted(posts))

    def test_by_words(self):
        self.check_many(posts_of, posts_by_words)

    def test_six_rows_of_two_hundred(self):
        rows = tagged_rows([[place * place % 97 for place in range(200)] for hand in range(6)])
        for s in (1, 8):
            self.check(posts_of, posts_by_words, rows, s)

    def test_refused(self):
        check_no_samples(self, posts_of)

    def test_what_is_told_is_the_askers_own(self):
        self.own(posts_of)


class Bound(unittest.TestCase):
    def test_ordinary_sizes(self):
        # g is 3, m is 6, so (3 + 2) * 3.
        self.assertEqual(lot_bound([9, 7], 3), 15)
        # g is 4 (10 over 3), m is 3 + 1 + 3, so (7 over 3 rounded up, and 3) times 4.
        self.assertEqual(lot_bound([10, 1, 4], 3), 24)

    def test_sizes_that_are_all_0(self):
        for hands in range(1, 7):
            for s in range(1, 9):
                self.assertEqual(lot_bound([0] * hands, s), 0)

    def test_some_that_are_0(self):
        self.assertEqual(lot_bound([0, 5], 1), 15)
        self.assertEqual(lot_bound([5, 0], 1), 15)
        self.assertEqual(lot_bound([0, 0, 1], 8), 4)

    def test_one_hand(self):
        self.assertEqual(lot_bound([1], 1), 2)
        self.assertEqual(lot_bound([200], 1), 400)
        self.assertEqual(lot_bound([200], 8), 225)
        self.assertEqual(lot_bound([3], 8), 4)

    def test_sizes_up_to_two_thousand(self):
        self.assertEqual(lot_bound([2000], 1), 4000)
        self.assertEqual(lot_bound([2000] * 6, 1), 14000)
        self.assertEqual(lot_bound([2000] * 6, 8), 14 * 250)
        self.assertEqual(lot_bound([1999, 0, 2000], 7), (5 + 3) * 286)

    def test_both_are_rounded_up(self):
        self.assertEqual(lot_bound([8], 8), 9)
        self.assertEqual(lot_bound([9], 8), 18)
        self.assertEqual(lot_bound([16], 8), 18)
        self.assertEqual(lot_bound([17], 8), 27)
        self.assertEqual(lot_bound([2, 2], 2), 4)
        self.assertEqual(lot_bound([2, 1], 2), 4)
        self.assertEqual(lot_bound([1, 1], 2), 3)

    def test_by_words(self):
        sizes_to_try = [sizes for hands in (1, 2, 3) for sizes in itertools.product((0, 1, 3, 8, 9, 100), repeat=hands)]
        sizes_to_try += [(0, 200, 13, 2000, 7, 1), (5, 5, 5, 5, 5), (1, 0, 0, 0, 0, 0), (1000, 1999, 3, 0)]
        for sizes in sizes_to_try:
            for s in range(1, 9):
                told = lot_bound(list(sizes), s)
                self.assertEqual(told, bound_by_words(sizes, s), (sizes, s))
                self.assertIs(type(told), int)

    def test_refused(self):
        for s in NO_SAMPLES:
            for sizes in ([0], [5, 3], [2000] * 6):
                before = list(sizes)
                check_refusal(self, NoNumber, lot_bound, sizes, s)
                self.assertEqual(sizes, before)

    def test_the_list_stays(self):
        sizes = [3, 0, 12, 7]
        self.assertEqual(lot_bound(sizes, 4), lot_bound(sizes, 4))
        self.assertEqual(sizes, [3, 0, 12, 7])


if __name__ == "__main__":
    unittest.main()
