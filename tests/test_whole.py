"""[2], [4]: the whole promise, from rows to even rows, with every module beside plain sorting."""

import copy
import importlib
import unittest

from evenlots.counted import kth_thing
from evenlots.desk import Desk
from evenlots.evening import are_even_moves, even_moves, even_rows
from evenlots.lots import key_lot_sizes, lot_ends, lot_sizes
from evenlots.posts import lot_bound, posts_of, samples_of
from evenlots.runs import runs_of, sorted_by_runs
from evenlots.sortings import Sorting
from evenlots.texts import read_rows, show_name, show_rows
from evenlots.things import are_rows, names_plainly, sorted_plainly
from making import (
    by_seed, dealt, do_all, first_told, last_told, least_exponent, listed_by_insertion, mixed_rows, owners,
    runs_by_falls, small_rows_of_hands, tagged_rows, written,
)

INTERFACE = {
    "errors": "LotError NoNumber NoDeed NoText NoName NoRow",
    "things": "are_rows sorted_plainly names_plainly",
    "runs": "runs_of merged_rows sorted_by_runs",
    "posts": "samples_of posts_of lot_bound",
    "lots": "lot_ends lot_sizes key_lot_sizes",
    "sortings": "Sorting",
    "evening": "even_moves even_rows are_even_moves",
    "counted": "kth_thing",
    "texts": "show_rows show_name read_rows",
    "desk": "Desk",
}


def all_told(rows, s):
    """What every function tells of rows."""
    sizes = [len(row) for row in rows]
    told = [are_rows(rows), sorted_plainly(rows), names_plainly(rows), runs_of(rows[0]), sorted_by_runs(rows[0])]
    told += [samples_of(rows, s), posts_of(rows, s), lot_bound(sizes, s), lot_ends(rows, s), lot_sizes(rows, s)]
    told += [key_lot_sizes(rows, s), even_moves(sizes), even_rows(rows), show_rows(rows), read_rows(show_rows(rows))]
    told += [[show_name(name) for name in names_plainly(rows)], [kth_thing(rows, k) for k in range(sum(sizes))]]
    return told


class Whole(unittest.TestCase):
    def check(self, rows, s, choose):
        before = copy.deepcopy(rows)
        plain = [thing for name, thing in listed_by_insertion(rows)]
        sorting = Sorting(rows, s)
        do_all(sorting, choose)
        lots = [sorting.row_of(hand) for hand in range(len(rows))]
        self.assertEqual(sum(lots, []), plain)
        self.assertEqual(sorting.all_in_order(), plain)
        self.check_lots(rows, s, sorting, lots)
        self.check_evened(lots, plain)
        for k in range(0, len(plain), 1 + len(plain) // 10):
            self.assertEqual(kth_thing(rows, k)[0], plain[k])
        self.assertEqual(rows, before)

    def check_lots(self, rows, s, sorting, lots):
        """No lot is above the bound, and no hand compares oftener than told."""
        sizes = [len(row) for row in rows]
        self.assertEqual([len(lot) for lot in lots], lot_sizes(rows, s))
        self.assertLessEqual(max(lot_sizes(rows, s)), lot_bound(sizes, s))
        for hand, row in enumerate(rows):
            most = len(row) * least_exponent(len(runs_by_falls(row)))
            most += len(lots[hand]) * least_exponent(len(rows))
            self.assertLessEqual(sorting.compared_by(hand), most)

    def check_evened(self, lots, plain):
        """Evened in order, and only what must has been moved."""
        sizes = [len(lot) for lot in lots]
        even = even_rows(lots)
        many = [len(row) for row in even]
        self.assertEqual(sum(even, []), plain)
        self.assertLessEqual(max(many) - min(many), 1)
        self.assertEqual(many, sorted(many, reverse=True))
        moved = len([1 for one, other in zip(owners(sizes), owners(dealt(len(plain), len(lots)))) if one != other])
        self.assertEqual(sum(move[2] for move in even_moves(sizes)), moved)
        self.assertIs(are_even_moves(sizes, even_moves(sizes)), True)

    def test_small_rows(self):
        for at, rows in enumerate(small_rows_of_hands(3, 2, (0, 1))):
            self.check(rows, 1 + at % 8, by_seed(at))

    def test_mixed_rows(self):
        for hands in range(1, 7):
            for seed in range(12):
                rows = mixed_rows(f"whole {seed} {hands}", hands, 40)
                for choose in (first_told, last_told, by_seed(seed)):
                    self.check(rows, 1 + seed % 8, choose)

    def test_rows_of_two_hundred_things(self):
        for seed in range(3):
            self.check(mixed_rows(f"long {seed}", 6, 200), 1 + 3 * seed, by_seed(seed))
        self.check(tagged_rows([range(200, 0, -1)] * 6), 8, last_told)

    def test_the_desk_tells_the_same(self):
        for hands in range(1, 7):
            for seed in range(4):
                rows = mixed_rows(f"told {seed} {hands}", hands, 12)
                plain = [thing for name, thing in listed_by_insertion(rows)]
                desk = Desk()
                self.assertEqual(desk.say(f"rows a {seed + 3} {show_rows(rows)}"), "ok")
                self.assertEqual(desk.say("all a"), "ok")
                self.assertEqual(desk.say("end a"), written(plain))
                sizes = [int(word) for word in desk.say("sizes a").split(" ")]
                self.assertEqual(sizes, lot_sizes(rows, seed + 3))
                self.assertLessEqual(max(sizes), int(desk.say("bound a")))
                for k, thing in enumerate(plain):
                    self.assertEqual(desk.say(f"kth a {k}").split(" ")[0], written([thing]))

    def test_the_same_asked_again_is_answered_the_same(self):
        for hands in range(1, 7):
            rows = mixed_rows(f"again {hands}", hands, 15)
            before = copy.deepcopy(rows)
            told = all_told(rows, 3)
            kept = copy.deepcopy(told)
            # Behind what is done to all that was told, of other rows, and of like rows that are other lists.
            for part in told:
                if isinstance(part, list):
                    for inner in part:
                        if isinstance(inner, list):
                            inner.append("more")
                    part.reverse()
                    part.append("more")
            all_told(mixed_rows("others", 6, 15), 5)
            self.assertEqual(all_told(rows, 3), kept)
            self.assertEqual(all_told(before, 3), kept)
            self.assertEqual(rows, before)

    def test_no_two_lists_told_are_one(self):
        for hands in range(1, 7):
            for rows in (mixed_rows(f"own {hands}", hands, 9), [[] for hand in range(hands)], [[(1, "a")]] * hands):
                lists = list(rows)
                for turn in range(2):
                    for part in all_told(rows, 2):
                        if isinstance(part, list):
                            lists += [part] + [inner for inner in part if isinstance(inner, list)]
                kept = {id(part): part for part in lists}
                self.assertEqual(len(kept), len(lists) - hands + len({id(row) for row in rows}))

    def test_all_is_imported_from_the_modules_named(self):
        for module, names in INTERFACE.items():
            for name in names.split():
                defined = getattr(importlib.import_module(f"evenlots.{module}"), name)
                self.assertEqual(defined.__module__, f"evenlots.{module}")


if __name__ == "__main__":
    unittest.main()
