"""[2], [3], [4], [19]: the k-th thing by counts, with its rounds."""

import copy
import unittest

from evenlots.counted import kth_thing
from evenlots.errors import NoNumber
from evenlots.things import sorted_plainly
from making import (
    GREAT, check_refusal, kth_by_words, listed_by_insertion, mixed_rows, small_rows_of_hands, tagged_rows,
)


def rounds_of(rows):
    return [kth_thing(rows, k)[1] for k in range(sum(len(row) for row in rows))]


class Kth(unittest.TestCase):
    def check(self, rows):
        """Every k beside plain sorting and beside the document's words."""
        before = copy.deepcopy(rows)
        plain = [thing for name, thing in listed_by_insertion(rows)]
        self.assertEqual(sorted_plainly(rows), plain)
        for k, thing in enumerate(plain):
            told = kth_thing(rows, k)
            self.assertEqual(told, kth_by_words(rows, k), (rows, k))
            self.assertEqual(told[0], thing)
            self.assertIs(type(told), tuple)
            self.assertEqual([type(part) for part in told], [tuple, int])
            self.assertTrue(1 <= told[1] <= len(plain))
            self.assertEqual(kth_thing(rows, k), told)
        self.assertEqual(rows, before)

    def test_ordinary_rows(self):
        rows = [[(5, "a"), (3, "b"), (9, "c"), (1, "d")], [(4, "e"), (2, "f")]]
        # The middles are 5 and 4, the post is 5, with 1 2 3 4 below it.
        self.assertEqual(kth_thing(rows, 4), ((5, "a"), 1))
        # Then 9 is left alone.
        self.assertEqual(kth_thing(rows, 5), ((9, "c"), 2))
        # Of 1 3 and 2 4 the middles are 3 and 4, and the post is 4.
        self.assertEqual(kth_thing(rows, 3), ((4, "e"), 2))
        # Of 1 3 and 2 the post is 3; of 1 and 2 it is 2; then 1 is left.
        self.assertEqual(kth_thing(rows, 2), ((3, "b"), 3))
        self.assertEqual(kth_thing(rows, 1), ((2, "f"), 4))
        self.assertEqual(kth_thing(rows, 0), ((1, "d"), 5))

    def test_one_thing(self):
        self.assertEqual(kth_thing([[(7, "a")]], 0), ((7, "a"), 1))
        self.assertEqual(kth_thing([[], [], [(-7, "a")], []], 0), ((-7, "a"), 1))

    def test_two_things(self):
        self.assertEqual(rounds_of([[(1, "a"), (2, "b")]]), [2, 1])
        self.assertEqual(rounds_of([[(1, "a")], [(2, "b")]]), [2, 1])
        self.assertEqual(rounds_of([[(2, "a")], [(1, "b")]]), [2, 1])

    def test_one_hand_halves(self):
        # 0 to 6: the post is 3, then 1 or 5, then what is left.
        self.assertEqual(rounds_of(tagged_rows([range(7)])), [3, 2, 3, 1, 3, 2, 3])
        # Below 3 with 0 1 2 3 4: the middle is 2; of 0 1 it is 1; of 3 4 it is 4.
        self.assertEqual(rounds_of(tagged_rows([range(5)])), [3, 2, 1, 3, 2])

    def test_hands_without_things_name_none(self):
        # Three empty hands must not move the middle of those named: 1 2 3, of which 2 is the post.
        rows = [[], [(3, "a")], [], [(1, "b")], [(2, "c")], []]
        self.assertEqual([kth_thing(rows, k) for k in range(3)], [((1, "b"), 2), ((2, "c"), 1), ((3, "a"), 2)])

    def test_hands_whose_things_are_all_let_go_name_none(self):
        # The post is 20, of 1 10 20 30 40: then hands 2, 3 and 4 have nothing left, and of 1 and 10 the post is 10.
        rows = [[(1, "a")], [(10, "b")], [(20, "c")], [(30, "d")], [(40, "e")]]
        self.assertEqual(rounds_of(rows), [3, 2, 1, 3, 2])

    def test_like_keys_go_by_hands_then_by_places(self):
        rows = [[(1, "z"), (0, "m"), (1, "y")], [(1, "b"), (1, "a")], [(0, "a")]]
        told = [kth_thing(rows, k)[0] for k in range(6)]
        self.assertEqual(told, [(0, "m"), (0, "a"), (1, "z"), (1, "y"), (1, "b"), (1, "a")])
        self.check(rows)

    def test_all_keys_alike(self):
        for hands in range(1, 7):
            self.check(tagged_rows([[4] * (hand + 1) for hand in range(hands)]))

    def test_like_things(self):
        rows = [[(1, "a")] * 5, [(1, "a")] * 3, [(2, "a"), (1, "a")]]
        self.check(rows)
        self.assertEqual([kth_thing(rows, k)[0] for k in (0, 8, 9)], [(1, "a"), (1, "a"), (2, "a")])

    def test_keys_below_0_and_of_thirty_figures(self):
        rows = tagged_rows([[GREAT, -1, 0], [-GREAT, GREAT - 1, -GREAT + 1, -10]])
        self.check(rows)
        self.assertEqual(kth_thing(rows, 0)[0][0], -GREAT)
        self.assertEqual(kth_thing(rows, 6)[0][0], GREAT)

    def test_small_rows(self):
        for hands, most, keys in ((1, 5, (0, 1)), (2, 3, (0, 1)), (3, 2, (0, 1)), (2, 2, (0, 1, 2)), (4, 1, (0, 1))):
            for rows in small_rows_of_hands(hands, most, keys):
                self.check(rows)

    def test_mixed_rows(self):
        for hands in range(1, 7):
            for seed in range(15):
                self.check(mixed_rows(f"kth {seed} {hands}", hands, 12))

    def test_six_hands_of_two_hundred_things(self):
        rows = tagged_rows([[(place * 7919 + hand * 31) % 300 for place in range(200)] for hand in range(6)])
        plain = sorted_plainly(rows)
        for k in list(range(0, 1200, 61)) + [1199]:
            told = kth_thing(rows, k)
            self.assertEqual(told[0], plain[k])
            self.assertEqual(told, kth_by_words(rows, k))

    def test_one_row_handed_in_for_several_hands(self):
        row = [(2, "b"), (1, "a")]
        self.check([row, row, row])

    def test_no_such_place(self):
        for rows in ([[(1, "a")]], tagged_rows([[3, 1, 2], [], [5]]), mixed_rows("none", 6, 30), [[], [(2, "b")]]):
            before = copy.deepcopy(rows)
            many = sum(len(row) for row in rows)
            for k in (-1, -2, -many, -many - 1, many, many + 1, 2 * many, 1200, 9999, GREAT, -GREAT):
                check_refusal(self, NoNumber, kth_thing, rows, k)
            # Python's str refuses to write these.
            for k in (10 ** 5000, -(10 ** 5000)):
                check_refusal(self, NoNumber, kth_thing, rows, k)
            self.assertEqual(rows, before)
            self.assertEqual(kth_thing(rows, many - 1)[0], sorted_plainly(rows)[-1])

    def test_no_things_at_all(self):
        for hands in range(1, 7):
            for k in (0, 1, -1, 7, GREAT, -GREAT):
                check_refusal(self, NoNumber, kth_thing, [[] for hand in range(hands)], k)

    def test_what_is_no_whole_number_is_no_place(self):
        for k in (True, False, None, "0", "", [0], (0,)):
            check_refusal(self, NoNumber, kth_thing, tagged_rows([[3, 1], [2]]), k)

    def test_rows_changed_between(self):
        rows = tagged_rows([[3, 1], [2]])
        told = kth_thing(rows, 0)
        rows[0].append((-1, "q"))
        self.assertEqual(told[0][0], 1)
        self.assertEqual(kth_thing(rows, 0)[0], (-1, "q"))
        self.check(rows)


if __name__ == "__main__":
    unittest.main()
