"""[2], [3], [4], [12], [13]: where lots end, and their sizes, by names and by keys alone."""

import collections
import copy
import unittest

from evenlots.lots import key_lot_sizes, lot_ends, lot_sizes
from evenlots.posts import lot_bound
from making import (
    GREAT, bound_by_words, check_no_samples, key_sizes_by_words, long_rows, lot_by_words, mixed_rows,
    names_by_insertion, posts_by_words, sizes_by_words, small_rows_of_hands, tagged_rows,
)


def ends_by_words(rows, s):
    posts = posts_by_words(rows, s)
    lots = [(name[1], lot_by_words(name, posts)) for name in names_by_insertion(rows)]
    return [
        [len([1 for hand, lot in lots if hand == own and lot <= last]) for last in range(len(rows))]
        for own in range(len(rows))
    ]


def rows_to_try():
    """(rows, s) of many shapes."""
    for s in (1, 2, 8):
        for rows in small_rows_of_hands(2, 3, (0, 1)):
            yield (rows, s)
        for rows in small_rows_of_hands(3, 2, (0, 1)):
            yield (rows, s)
    for hands in range(1, 7):
        for s in range(1, 9):
            for seed in range(8):
                yield (mixed_rows(f"{seed} {hands} {s}", hands, 50), s)


class Lots(unittest.TestCase):
    def check_ends(self, rows, s):
        before = copy.deepcopy(rows)
        told = lot_ends(rows, s)
        self.assertIs(type(told), list)
        self.assertEqual(len(told), len(rows))
        for ends, row in zip(told, rows):
            self.assertIs(type(ends), list)
            self.assertEqual([type(end) for end in ends], [int] * len(rows))
            self.assertEqual(ends, sorted(ends))
            self.assertGreaterEqual(ends[0], 0)
            self.assertEqual(ends[-1], len(row))
        self.assertEqual(len(set(map(id, told))), len(told))
        self.assertEqual(rows, before)
        return told

    def check_sum(self, ask, rows, s, most):
        """So many sizes as hands, together all things, none above the most."""
        before = copy.deepcopy(rows)
        told = ask(rows, s)
        self.assertIs(type(told), list)
        self.assertEqual([type(size) for size in told], [int] * len(rows))
        self.assertEqual(sum(told), sum(len(row) for row in rows))
        self.assertGreaterEqual(min(told), 0)
        self.assertLessEqual(max(told), most)
        self.assertEqual(rows, before)
        return told

    def check_sizes(self, rows, s):
        sizes = [len(row) for row in rows]
        self.assertEqual(lot_bound(sizes, s), bound_by_words(sizes, s))
        return self.check_sum(lot_sizes, rows, s, lot_bound(sizes, s))

    def check_key_sizes(self, rows, s):
        alike = collections.Counter(thing[0] for row in rows for thing in row)
        most = lot_bound([len(row) for row in rows], s) + max(alike.values(), default=0)
        return self.check_sum(key_lot_sizes, rows, s, most)


class Names(Lots):
    def test_ordinary_rows(self):
        rows = tagged_rows([[5, 3, 9, 1], [4, 2]])
        # The post is (4, 1, 0): 1 3 and 5 9, 2 and 4.
        self.assertEqual(lot_ends(rows, 2), [[2, 4], [1, 2]])
        self.assertEqual(lot_sizes(rows, 2), [3, 3])

    def test_three_hands(self):
        rows = tagged_rows([[30, 10], [20, -5], [25, 15]])
        # Posts 15 and 25 of hand 2.
        self.assertEqual(lot_ends(rows, 2), [[1, 1, 2], [1, 2, 2], [0, 1, 2]])
        self.assertEqual(lot_sizes(rows, 2), [2, 2, 2])

    def test_like_keys_are_parted_by_names(self):
        rows = [[(1, "z")] * 4, [(1, "a")] * 4]
        self.assertEqual(lot_ends(rows, 4), [[4, 4], [0, 4]])
        rows = [[(1, "z")] * 4, [(1, "a")] * 2]
        # The post is (1, 0, 3): a thing of hand 0 parts its own row and stands below hand 1's.
        self.assertEqual(lot_ends(rows, 4), [[3, 4], [0, 2]])
        rows = [[(1, "z")] * 2, [(1, "a")] * 4]
        self.assertEqual(lot_ends(rows, 4), [[2, 2], [1, 4]])

    def test_like_keys_by_places_as_handed_in(self):
        rows = [[(2, "a"), (1, "b"), (2, "c"), (1, "d")], []]
        # Sorted names (1, 0, 1) (1, 0, 3) (2, 0, 0) (2, 0, 2).
        self.assertEqual(lot_ends(rows, 4), [[2, 4], [0, 0]])

    def test_one_hand_has_one_lot(self):
        for many in (0, 1, 7, 300):
            rows = tagged_rows([range(many, 0, -1)])
            for s in range(1, 9):
                self.assertEqual(lot_ends(rows, s), [[many]])
                self.assertEqual(lot_sizes(rows, s), [many])

    def test_no_things_at_all(self):
        for hands in range(1, 7):
            rows = [[] for hand in range(hands)]
            for s in (1, 8):
                self.assertEqual(self.check_ends(rows, s), [[0] * hands for hand in range(hands)])
                self.assertEqual(self.check_sizes(rows, s), [0] * hands)

    def test_empty_lots_between_posts_that_are_alike(self):
        # Both posts are the only thing: lot 0 is below it, lot 1 is empty.
        self.assertEqual(lot_ends([[], [(7, "a")], []], 4), [[0, 0, 0], [0, 0, 1], [0, 0, 0]])
        self.assertEqual(lot_sizes([[], [(7, "a")], []], 4), [0, 0, 1])
        # Posts 3, 7, 7.
        rows = [[(7, "a")], [(3, "b")], [], []]
        self.assertEqual(lot_ends(rows, 1), [[0, 0, 0, 1], [0, 1, 1, 1], [0, 0, 0, 0], [0, 0, 0, 0]])
        self.assertEqual(lot_sizes(rows, 1), [0, 1, 0, 1])

    def test_a_post_is_of_the_lot_behind_it(self):
        rows = tagged_rows([[1, 2], [3, 4]])
        # Samples 1 and 3 of one each, so the post is 3.
        self.assertEqual(lot_ends(rows, 1), [[2, 2], [0, 2]])

    def test_great_keys(self):
        rows = tagged_rows([[GREAT, -GREAT], [GREAT, GREAT - 1]])
        self.assertEqual(lot_ends(rows, 2), [[1, 2], [1, 2]])

    def test_by_words(self):
        for rows, s in rows_to_try():
            self.assertEqual(self.check_ends(rows, s), ends_by_words(rows, s), (rows, s))
            self.assertEqual(self.check_sizes(rows, s), sizes_by_words(rows, s), (rows, s))

    def test_rows_of_several_hundred_things(self):
        for rows in long_rows():
            for s in (1, 3, 8):
                ends = self.check_ends(rows, s)
                sizes = self.check_sizes(rows, s)
                for lot in range(len(rows)):
                    self.assertEqual(sum(row_ends[lot] for row_ends in ends), sum(sizes[:lot + 1]))
        rows = tagged_rows([range(300, 0, -1), [place // 2 for place in range(250)]])
        self.assertEqual(lot_ends(rows, 5), ends_by_words(rows, 5))

    def test_each_list_is_its_own(self):
        for keys_of_hands in ([[], []], [[1], [2], [3]], [[1, 2, 3], [1, 2, 3]]):
            rows = tagged_rows(keys_of_hands)
            told = lot_ends(rows, 2)
            kept = copy.deepcopy(told)
            told[0].append(99)
            self.assertEqual(told[1:], kept[1:])
            told.pop()
            self.assertEqual(lot_ends(rows, 2), kept)
            rows[0].append((5, "a"))
            rows[0].pop()
            self.assertEqual(lot_ends(rows, 2), kept)
            for ask in (lot_sizes, key_lot_sizes):
                sizes = ask(rows, 2)
                kept_sizes = list(sizes)
                sizes.clear()
                self.assertEqual(ask(rows, 2), kept_sizes)

    def test_one_row_handed_in_for_several_hands(self):
        row = [(2, "b"), (1, "a")]
        self.assertEqual(lot_ends([row, row], 2), [[1, 2], [1, 2]])

    def test_refused(self):
        for ask in (lot_ends, lot_sizes, key_lot_sizes):
            check_no_samples(self, ask)


class Keys(Lots):
    def test_ordinary_rows(self):
        self.assertEqual(key_lot_sizes(tagged_rows([[5, 3, 9, 1], [4, 2]]), 2), [3, 3])

    def test_like_keys_are_in_one_lot(self):
        self.assertEqual(key_lot_sizes([[(1, "z")] * 4, [(1, "a")] * 4], 4), [0, 8])
        self.assertEqual(key_lot_sizes([[(1, "z")] * 4, [(1, "a")] * 2], 4), [0, 6])
        # By names the post (1, 1, 0) parts the like keys 1, by keys it does not.
        rows = [[(0, "a"), (1, "b")], [(1, "c"), (2, "d")]]
        self.assertEqual(lot_sizes(rows, 2), [2, 2])
        self.assertEqual(key_lot_sizes(rows, 2), [1, 3])

    def test_of_like_posts_the_later_lot_has_what_comes(self):
        # Posts (7, 1, 0) twice.
        self.assertEqual(key_lot_sizes([[], [(7, "a")], []], 4), [0, 0, 1])
        # All keys alike: three posts of one key, but not of one name.
        rows = [[(4, "a")] * 3 for hand in range(4)]
        self.assertEqual(key_lot_sizes(rows, 3), [0, 0, 0, 12])
        # Samples 1 4 4 4 4 9, posts at 2 and 4, both of key 4.
        rows = tagged_rows([[1, 4], [4, 4], [4, 9]])
        self.assertEqual(key_lot_sizes(rows, 2), [1, 0, 5])
        # Samples 1 1 4 4 4 4 9 9, posts at 2, 4 and 6: 4, 4, 9.
        rows = tagged_rows([[1, 1], [4, 4], [4, 4], [9, 9]])
        self.assertEqual(key_lot_sizes(rows, 2), [2, 0, 4, 2])

    def test_one_hand_has_one_lot(self):
        for many in (0, 1, 7, 300):
            for s in (1, 8):
                self.assertEqual(key_lot_sizes(tagged_rows([range(many)]), s), [many])

    def test_no_things_at_all(self):
        for hands in range(1, 7):
            self.assertEqual(key_lot_sizes([[] for hand in range(hands)], 3), [0] * hands)

    def test_great_keys_below_0(self):
        rows = tagged_rows([[-GREAT, -GREAT], [-GREAT, -GREAT + 1]])
        self.assertEqual(key_lot_sizes(rows, 2), [0, 4])

    def test_by_words(self):
        for rows, s in rows_to_try():
            self.assertEqual(self.check_key_sizes(rows, s), key_sizes_by_words(rows, s), (rows, s))

    def test_rows_of_several_hundred_things(self):
        for rows in long_rows():
            for s in (1, 3, 8):
                self.check_key_sizes(rows, s)
        rows = tagged_rows([range(300, 0, -1), [place // 9 for place in range(250)], [7] * 220])
        self.assertEqual(key_lot_sizes(rows, 5), key_sizes_by_words(rows, 5))


if __name__ == "__main__":
    unittest.main()
