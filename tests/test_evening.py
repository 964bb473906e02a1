"""[2], [4], [17], [18]: hands evened, the moves, and the rows that come of it."""

import collections
import copy
import itertools
import random
import unittest

from evenlots.evening import are_even_moves, even_moves, even_rows
from making import GREAT, dealt, long_rows, mixed_rows, owners, small_rows_of_hands, tagged_rows


def moves_by_places(sizes):
    """[17] by its words: each thing goes whose place in all is another hand's."""
    had = owners(sizes)
    due = owners(dealt(sum(sizes), len(sizes)))
    many = collections.Counter((giver, taker) for giver, taker in zip(had, due) if giver != taker)
    return sorted((giver, taker, many[(giver, taker)]) for giver, taker in many)


def fewest_moved(sizes):
    """The fewest that can be moved, of all ways in which the even sizes come about with order kept."""
    had = owners(sizes)
    ways = itertools.combinations_with_replacement(range(len(sizes)), len(had))
    even = dealt(len(had), len(sizes))
    return min(
        sum(1 for giver, taker in zip(had, way) if giver != taker)
        for way in ways if [way.count(hand) for hand in range(len(sizes))] == even
    )


def sizes_to_try():
    for hands, most in ((1, 9), (2, 7), (3, 4), (4, 3), (5, 2), (6, 2)):
        yield from (list(sizes) for sizes in itertools.product(range(most + 1), repeat=hands))
    dice = random.Random("sizes")
    for turn in range(300):
        most = dice.choice((1, 5, 40, 200, 1200))
        yield [dice.choice((0, dice.randint(0, most), most)) for hand in range(dice.randint(1, 6))]


class Moves(unittest.TestCase):
    def check(self, sizes):
        before = list(sizes)
        told = even_moves(sizes)
        self.assertEqual(told, moves_by_places(sizes), sizes)
        self.assertIs(type(told), list)
        for move in told:
            self.assertIs(type(move), tuple)
            self.assertEqual([type(part) for part in move], [int, int, int])
            self.assertGreater(move[2], 0)
            self.assertNotEqual(move[0], move[1])
        self.assertEqual(told, sorted(told))
        self.assertEqual(sizes, before)

    def test_ordinary_sizes(self):
        self.assertEqual(even_moves([5, 0, 1]), [(0, 1, 2), (0, 2, 1)])
        self.assertEqual(even_moves([1, 6, 2]), [(1, 0, 2), (1, 2, 1)])
        self.assertEqual(even_moves([2, 3, 3]), [(1, 0, 1), (2, 1, 1)])

    def test_the_first_ones_have_one_more(self):
        # Evened [2, 2, 1].
        self.assertEqual(even_moves([1, 2, 2]), [(1, 0, 1), (2, 1, 1)])
        self.assertEqual(even_moves([2, 2, 1]), [])
        self.assertEqual(even_moves([0, 1]), [(1, 0, 1)])
        # Evened [2, 1, 1].
        self.assertEqual(even_moves([1, 1, 2]), [(1, 0, 1), (2, 1, 1)])

    def test_one_hand(self):
        for size in (0, 1, 2, 7, 200, 1200):
            self.assertEqual(even_moves([size]), [])

    def test_even_already(self):
        for hands in range(1, 7):
            for many in (0, 1, 2, 5, 6, 7, 35, 1200, 7200):
                self.assertEqual(even_moves(dealt(many, hands)), [])

    def test_no_things(self):
        for hands in range(1, 7):
            self.assertEqual(even_moves([0] * hands), [])

    def test_fewer_things_than_hands(self):
        self.assertEqual(even_moves([0, 0, 0, 0, 0, 1]), [(5, 0, 1)])
        self.assertEqual(even_moves([0, 0, 3, 0, 0, 0]), [(2, 0, 1), (2, 1, 1)])
        self.assertEqual(even_moves([0, 2, 0, 0, 0, 3]), [(1, 0, 1), (5, 2, 1), (5, 3, 1), (5, 4, 1)])
        self.assertEqual(even_moves([1, 0, 0, 0]), [])
        self.assertEqual(even_moves([2, 0, 0, 0]), [(0, 1, 1)])

    def test_all_things_with_the_first_hand(self):
        self.assertEqual(even_moves([8, 0, 0]), [(0, 1, 3), (0, 2, 2)])
        self.assertEqual(even_moves([1200, 0, 0, 0, 0, 0]), [(0, taker, 200) for taker in range(1, 6)])

    def test_all_things_with_the_last_hand(self):
        self.assertEqual(even_moves([0, 0, 8]), [(2, 0, 3), (2, 1, 3)])
        self.assertEqual(even_moves([0, 0, 0, 0, 0, 1200]), [(5, taker, 200) for taker in range(5)])

    def test_things_go_past_hands_straight(self):
        # Evened [3, 3, 3, 2]: the last ones of hand 0 go past hand 1, whose own all go on.
        self.assertEqual(even_moves([7, 2, 1, 1]), [(0, 1, 3), (0, 2, 1), (1, 2, 2), (2, 3, 1)])
        # Evened [2, 2, 2]: hand 2's go past hand 1, which has none.
        self.assertEqual(even_moves([1, 0, 5]), [(2, 0, 1), (2, 1, 2)])

    def test_one_hand_gives_both_ways(self):
        self.assertEqual(even_moves([0, 9, 0]), [(1, 0, 3), (1, 2, 3)])
        self.assertEqual(
            even_moves([0, 0, 12, 0, 0, 0]), [(2, 0, 2), (2, 1, 2), (2, 3, 2), (2, 4, 2), (2, 5, 2)]
        )

    def test_one_hand_takes_from_several(self):
        self.assertEqual(even_moves([3, 3, 0]), [(0, 1, 1), (1, 2, 2)])
        # Evened [4, 4, 3]: hand 0 takes all from two.
        self.assertEqual(even_moves([0, 2, 9]), [(1, 0, 2), (2, 0, 2), (2, 1, 4)])

    def test_sizes_up_to_twelve_hundred(self):
        self.check([1200, 1199, 0, 3, 1200, 7])
        self.check([1200] * 6)
        self.check([0, 1200, 0, 1200, 0, 1200])
        self.assertEqual(even_moves([1200, 0]), [(0, 1, 600)])

    def test_by_places(self):
        for sizes in sizes_to_try():
            self.check(sizes)

    def test_moves_lead_to_the_even_sizes(self):
        for sizes in sizes_to_try():
            behind = list(sizes)
            for giver, taker, many in even_moves(sizes):
                behind[giver] -= many
                behind[taker] += many
            share, more = divmod(sum(sizes), len(sizes))
            self.assertEqual(behind, [share + 1] * more + [share] * (len(sizes) - more))

    def test_no_fewer_can_be_moved(self):
        for hands, most in ((1, 4), (2, 4), (3, 3), (4, 2)):
            for sizes in itertools.product(range(most + 1), repeat=hands):
                moved = sum(many for giver, taker, many in even_moves(list(sizes)))
                self.assertEqual(moved, fewest_moved(sizes), sizes)

    def test_what_is_told_is_the_askers_own(self):
        for sizes in ([5, 0, 1], [2, 2], [0, 0, 0], [7]):
            kept = even_moves(sizes)
            told = even_moves(sizes)
            self.assertIsNot(told, kept)
            told.append((0, 1, 1))
            told.reverse()
            self.assertEqual(even_moves(sizes), kept)
            even_moves(sizes).clear()
            self.assertEqual(even_moves(sizes), kept)

    def test_nothing_is_kept_of_what_was_handed_in(self):
        sizes = [5, 0, 1]
        told = even_moves(sizes)
        sizes[0] = 0
        sizes.append(4)
        self.assertEqual(told, [(0, 1, 2), (0, 2, 1)])
        self.assertEqual(even_moves(sizes), moves_by_places(sizes))


class Rows(unittest.TestCase):
    def check(self, rows):
        before = copy.deepcopy(rows)
        told = even_rows(rows)
        self.assertEqual(rows, before)
        self.assertIs(type(told), list)
        things = sum(rows, [])
        self.assertEqual([len(row) for row in told], dealt(len(things), len(rows)))
        self.assertEqual(sum(told, []), things)
        for row in told:
            self.assertIs(type(row), list)
            for thing in row:
                self.assertIs(type(thing), tuple)
        ids = [id(row) for row in told] + [id(row) for row in rows]
        self.assertEqual(len(set(ids)), len(told) + len(set(map(id, rows))))
        self.assertEqual(even_rows(told), told)
        return told

    def test_ordinary_rows(self):
        rows = [[(5, "a"), (3, "b"), (3, "c"), (9, "d"), (1, "e")], [], [(2, "f")]]
        self.assertEqual(
            even_rows(rows), [[(5, "a"), (3, "b")], [(3, "c"), (9, "d")], [(1, "e"), (2, "f")]]
        )

    def test_the_first_ones_have_one_more(self):
        rows = tagged_rows([[], [1, 2, 3], [4, 5]])
        self.assertEqual([[key for key, tag in row] for row in even_rows(rows)], [[1, 2], [3, 4], [5]])

    def test_things_are_not_sorted(self):
        rows = tagged_rows([[9, 1], [5], [7, 0, 2]])
        self.assertEqual([[key for key, tag in row] for row in even_rows(rows)], [[9, 1], [5, 7], [0, 2]])

    def test_like_things_keep_their_order(self):
        rows = [[(1, "a")], [(1, "b"), (1, "a"), (1, "b")]]
        self.assertEqual(even_rows(rows), [[(1, "a"), (1, "b")], [(1, "a"), (1, "b")]])

    def test_one_hand(self):
        for many in (0, 1, 9):
            rows = tagged_rows([range(many, 0, -1)])
            self.assertEqual(self.check(rows), rows)

    def test_hands_without_things(self):
        for hands in range(1, 7):
            self.assertEqual(self.check([[] for hand in range(hands)]), [[]] * hands)
        self.assertEqual(self.check([[], [], [(1, "a")]]), [[(1, "a")], [], []])

    def test_small_rows(self):
        for hands, most in ((1, 4), (2, 3), (3, 2), (4, 1), (6, 1)):
            for rows in small_rows_of_hands(hands, most, (0, 1)):
                self.check(rows)

    def test_mixed_rows(self):
        for hands in range(1, 7):
            for seed in range(20):
                self.check(mixed_rows(f"even {seed} {hands}", hands, 200))

    def test_rows_of_several_hundred_things(self):
        for rows in long_rows():
            self.check(rows)
        self.check([[(place, "ab") for place in range(1200)] for hand in range(6)])

    def test_things_change_their_hands_as_the_moves_tell(self):
        for hands in range(1, 7):
            for seed in range(20):
                rows = mixed_rows(f"moves {seed} {hands}", hands, 60)
                told = even_rows(rows)
                had = [(hand, thing) for hand, row in enumerate(rows) for thing in row]
                has = [(hand, thing) for hand, row in enumerate(told) for thing in row]
                moved = collections.Counter()
                for (giver, thing), (taker, same) in zip(had, has):
                    self.assertEqual(thing, same)
                    if giver != taker:
                        moved[(giver, taker)] += 1
                moves = even_moves([len(row) for row in rows])
                self.assertEqual(moves, sorted(pair + (many,) for pair, many in moved.items()))

    def test_evened_rows_are_moved_no_more(self):
        for seed in range(30):
            rows = even_rows(mixed_rows(f"again {seed}", 1 + seed % 6, 30))
            self.assertEqual(even_moves([len(row) for row in rows]), [])
            self.assertEqual(even_rows(rows), rows)

    def test_each_told_row_is_its_own(self):
        for keys_of_hands in ([[1, 2], [3]], [[1], [2], [3]], [[], []], [[1, 2, 3]], [[1, 2, 3, 4], []], [[]]):
            rows = tagged_rows(keys_of_hands)
            kept = copy.deepcopy(rows)
            told = even_rows(rows)
            due = copy.deepcopy(told)
            for at, row in enumerate(told):
                row.append((99, "q"))
                self.assertEqual([len(other) for other in told[at + 1:]], [len(other) for other in due[at + 1:]])
            told.clear()
            self.assertEqual(rows, kept)
            self.assertEqual(even_rows(rows), due)

    def test_one_row_handed_in_for_several_hands(self):
        row = [(2, "b"), (1, "a")]
        told = even_rows([row, row, row])
        self.assertEqual(told, [row, row, row])
        told[0].clear()
        self.assertEqual(told[1:], [row, row])
        self.assertEqual(row, [(2, "b"), (1, "a")])

    def test_nothing_is_kept_of_what_was_handed_in(self):
        rows = tagged_rows([[1, 2], [3]])
        told = even_rows(rows)
        kept = copy.deepcopy(told)
        rows[0].clear()
        rows.pop()
        self.assertEqual(told, kept)


class AreMoves(unittest.TestCase):
    def yes(self, sizes, moves):
        self.told(sizes, moves, True)

    def no(self, sizes, moves):
        self.told(sizes, moves, False)

    def told(self, sizes, moves, due):
        before = (list(sizes), list(moves))
        self.assertIs(are_even_moves(sizes, moves), due, (sizes, moves))
        self.assertEqual((sizes, moves), before)

    def some(self):
        """Sizes with some moves."""
        for sizes in ([5, 0, 1], [1, 6, 2], [7, 2, 1, 1], [0, 0, 8], [0, 1], [0, 0, 12, 0, 0, 0], [1200, 0, 3]):
            yield (sizes, even_moves(sizes))

    def test_in_any_order(self):
        for sizes, moves in self.some():
            for order in itertools.permutations(moves):
                self.yes(sizes, list(order))

    def test_no_moves(self):
        for sizes in ([0], [7], [2, 2], [3, 2, 2], [0, 0, 0, 0, 0, 0], [1, 0, 0]):
            self.yes(sizes, [])
        for sizes, moves in self.some():
            self.no(sizes, [])

    def test_one_more(self):
        for sizes, moves in self.some():
            for more in itertools.product(range(-1, len(sizes) + 1), repeat=2):
                for many in (-1, 0, 1, 2, 1200):
                    for at in (0, len(moves)):
                        self.no(sizes, moves[:at] + [more + (many,)] + moves[at:])
        self.no([2, 2], [(0, 1, 1)])
        self.no([2, 2], [(0, 1, 1), (1, 0, 1)])

    def test_one_less(self):
        for sizes, moves in self.some():
            for at in range(len(moves)):
                self.no(sizes, moves[:at] + moves[at + 1:])

    def test_one_twice(self):
        for sizes, moves in self.some():
            for move in moves:
                self.no(sizes, moves + [move])
                self.no(sizes, [move] + moves)
            self.no(sizes, moves + moves)
            for one, other in itertools.permutations(range(len(moves)), 2):
                changed = list(moves)
                changed[one] = changed[other]
                self.no(sizes, changed)

    def test_another_number(self):
        for sizes, moves in self.some():
            for at, (giver, taker, many) in enumerate(moves):
                for other in (many - 1, many + 1, -many, 0, 2 * many, GREAT, -GREAT):
                    self.no(sizes, moves[:at] + [(giver, taker, other)] + moves[at + 1:])

    def test_two_put_together(self):
        self.yes([8, 0, 0], [(0, 1, 3), (0, 2, 2)])
        self.no([8, 0, 0], [(0, 1, 5)])
        self.no([8, 0, 0], [(0, 2, 5)])
        # Things that go by way of another hand.
        self.no([8, 0, 0], [(0, 1, 5), (1, 2, 2)])
        for sizes, moves in self.some():
            for one, other in itertools.permutations(range(len(moves)), 2):
                left = [move for at, move in enumerate(moves) if at not in (one, other)]
                self.no(sizes, left + [moves[one][:2] + (moves[one][2] + moves[other][2],)])

    def test_one_parted_into_two(self):
        for sizes, moves in self.some():
            for at, (giver, taker, many) in enumerate(moves):
                for part in range(0, min(many, 20) + 1):
                    parts = [(giver, taker, part), (giver, taker, many - part)]
                    self.no(sizes, moves[:at] + parts + moves[at + 1:])

    def test_hands_changed(self):
        for sizes, moves in self.some():
            for at, (giver, taker, many) in enumerate(moves):
                others = [(taker, giver), (giver, giver), (taker, taker), (-1, taker), (giver, -1), (6, taker)]
                others += [(giver, 6), (len(sizes), taker), (giver, len(sizes)), (GREAT, taker), (-GREAT, GREAT)]
                others += [(giver - len(sizes), taker), (giver, taker - len(sizes))]
                for other in others:
                    self.no(sizes, moves[:at] + [other + (many,)] + moves[at + 1:])

    def test_numbers_of_0_and_below(self):
        for sizes in ([2, 2], [1, 0, 0], [0], [5, 0, 1]):
            for move in ((0, 0, 0), (0, 1, 0), (1, 0, 0), (0, 0, 1), (0, 0, -1), (0, 1, -1), (7, 9, 0)):
                self.no(sizes, even_moves(sizes) + [move])

    def test_moves_of_other_sizes(self):
        for sizes, moves in self.some():
            for others, other_moves in self.some():
                self.told(sizes, other_moves, sizes == others)
        self.no([0, 5, 1], even_moves([5, 0, 1]))

    def test_one_hand_has_no_moves(self):
        for move in ((0, 0, 1), (0, 0, 0), (0, 1, 1), (1, 0, 1)):
            self.no([3], [move])

    def test_all_small_lists_of_moves(self):
        for sizes in itertools.product(range(4), repeat=2):
            pairs = list(itertools.product((-1, 0, 1, 2), (-1, 0, 1, 2), (-1, 0, 1, 2, 3)))
            for move in pairs:
                self.told(list(sizes), [move], [move] == moves_by_places(sizes))

    def test_long_lists(self):
        sizes = [5, 0, 1]
        self.no(sizes, even_moves(sizes) * 400)
        self.no(sizes, [(0, 1, 1)] * 1400)

    def test_like_the_moves_by_places(self):
        dice = random.Random("moves")
        for sizes in sizes_to_try():
            moves = moves_by_places(sizes)
            dice.shuffle(moves)
            self.yes(sizes, moves)
            if moves:
                self.no(sizes, moves[1:])


if __name__ == "__main__":
    unittest.main()
