"""[2], [3], [4], [14], [15], [16]: a sorting by deeds, step by step, in many orders."""

import copy
import itertools
import unittest

from evenlots.errors import NoDeed
from evenlots.sortings import Sorting
from making import (
    GREAT, Unhelpful, all_deeds, bound_by_words, by_keys, by_seed, check_no_samples, check_refusal, compared_by_twos,
    compared_in_sorting, do_all, first_told, last_told, least_exponent, listed_by_insertion, lot_by_words, mixed_rows,
    oddities, posts_by_words, runs_by_falls, small_rows_of_hands, steps, tagged_rows,
)

NO_HANDS = (-1, -2, -6, 6, 7, 100, GREAT, -GREAT, 10 ** 5000, True, False, "0", "", "sort", [0], (0,), [], ())


class Model:
    """What [14] to [16] say, worked out anew from the deeds that have been done."""

    def __init__(self, rows, s):
        self.rows = copy.deepcopy(rows)
        self.hands = range(len(rows))
        self.done = set()
        posts = posts_by_words(rows, s)
        self.plain = [thing for name, thing in listed_by_insertion(rows)]
        # lots[hand][lot]: the part of a hand's sorted row that is of this lot.
        self.lots = [[[] for lot in self.hands] for hand in self.hands]
        for name, thing in listed_by_insertion(rows):
            self.lots[name[1]][lot_by_words(name, posts)].append(thing)
        self.most = [len(row) for row in rows]

    def is_due(self, deed):
        if deed[0] == "sort":
            return True
        if deed[0] == "give":
            return ("sort", deed[1]) in self.done
        if deed[0] == "post":
            return all(("give", hand) in self.done for hand in self.hands)
        if deed[0] == "cut":
            return ("post",) in self.done
        if deed[0] == "take":
            return ("cut", deed[1]) in self.done
        letters = [("take", hand, deed[1]) for hand in self.hands if hand != deed[1]]
        return ("cut", deed[1]) in self.done and all(letter in self.done for letter in letters)

    def may_do(self):
        deeds = [deed for deed in all_deeds(len(self.hands)) if deed not in self.done and self.is_due(deed)]
        return sorted(deeds, key=lambda deed: (deed[0], deed[1:]))

    def do_deed(self, deed):
        self.done.add(deed)
        self.most = [max(self.most[hand], self.room(hand)) for hand in self.hands]

    def of_lot(self, hand):
        """The lots of all hands that hand merges, in the order of hands, those without things left out."""
        return [self.lots[sender][hand] for sender in self.hands if self.lots[sender][hand]]

    def row_of(self, hand):
        if ("merge", hand) in self.done:
            return by_keys(sum(self.of_lot(hand), []))
        if ("cut", hand) in self.done:
            return self.lots[hand][hand]
        if ("sort", hand) in self.done:
            return by_keys(self.rows[hand])
        return self.rows[hand]

    def room(self, hand):
        many = len(self.row_of(hand))
        if ("merge", hand) not in self.done:
            many += sum(len(self.lots[sender][hand]) for sender in self.hands if ("take", sender, hand) in self.done)
        return many

    def compared_by(self, hand):
        compared = 0
        if ("sort", hand) in self.done:
            compared += compared_in_sorting(self.rows[hand])
        if ("merge", hand) in self.done:
            compared += compared_by_twos(self.of_lot(hand))
        return compared

    def is_done(self):
        return len(self.done) == len(all_deeds(len(self.hands)))


def seen(sorting, hands):
    """All that a sorting tells, as one value."""
    told = [sorting.may_do(), sorting.is_done()]
    for hand in range(hands):
        told.append((sorting.row_of(hand), sorting.room_of(hand), sorting.compared_by(hand)))
    try:
        told.append(sorting.all_in_order())
    except NoDeed:
        told.append("not yet")
    return copy.deepcopy(told)


def do_until(sorting, last):
    """Does deeds until the last one has been done."""
    for deed in steps(sorting):
        sorting.do_deed(deed)
        if deed == last:
            return


class Deeds(unittest.TestCase):
    def refused(self, asked, *parts):
        check_refusal(self, NoDeed, asked, *parts)

    def same(self, sorting, model):
        """What is told is what the model says."""
        self.assertEqual(sorting.may_do(), model.may_do())
        self.assertIs(type(sorting.may_do()), list)
        for deed in sorting.may_do():
            self.assertIs(type(deed), tuple)
        for hand in model.hands:
            self.assertEqual(sorting.row_of(hand), model.row_of(hand))
            self.assertIs(type(sorting.row_of(hand)), list)
            self.assertEqual(sorting.room_of(hand), (model.room(hand), model.most[hand]))
            self.assertIs(type(sorting.room_of(hand)), tuple)
            self.assertEqual(sorting.compared_by(hand), model.compared_by(hand))
            self.assertIs(type(sorting.compared_by(hand)), int)
        self.assertIs(sorting.is_done(), model.is_done())
        if model.is_done():
            self.assertEqual(sorting.all_in_order(), model.plain)
            self.assertIs(type(sorting.all_in_order()), list)
        else:
            self.refused(sorting.all_in_order)

    def ended(self, sorting, rows, s):
        """The promise of [4], behind all."""
        plain = [thing for name, thing in listed_by_insertion(rows)]
        hands = len(rows)
        self.assertEqual(sorting.all_in_order(), plain)
        self.assertEqual(sum((sorting.row_of(hand) for hand in range(hands)), []), plain)
        bound = bound_by_words([len(row) for row in rows], s)
        for hand, row in enumerate(rows):
            many = len(sorting.row_of(hand))
            self.assertLessEqual(many, bound)
            self.assertEqual(sorting.room_of(hand)[0], many)
            most = len(row) * least_exponent(len(runs_by_falls(row))) + many * least_exponent(hands)
            self.assertLessEqual(sorting.compared_by(hand), most)

    def run_by(self, rows, s, choose):
        """A whole run, looked at behind each deed."""
        before = copy.deepcopy(rows)
        sorting = Sorting(rows, s)
        model = Model(rows, s)
        self.same(sorting, model)
        for deed in steps(sorting, choose):
            self.assertIsNone(sorting.do_deed(deed))
            model.do_deed(deed)
            self.same(sorting, model)
        self.assertTrue(model.is_done())
        self.ended(sorting, rows, s)
        self.assertEqual(rows, before)


class Whole(Deeds):
    def test_a_run_of_two_hands_deed_by_deed(self):
        rows = [[(5, "a"), (3, "b"), (9, "c"), (1, "d")], [(4, "e"), (2, "f")]]
        sorting = Sorting(rows, 2)
        self.assertEqual(sorting.may_do(), [("sort", 0), ("sort", 1)])
        sorting.do_deed(("sort", 1))
        self.assertEqual(sorting.may_do(), [("give", 1), ("sort", 0)])
        self.assertEqual(sorting.row_of(0), rows[0])
        self.assertEqual(sorting.row_of(1), [(2, "f"), (4, "e")])
        self.assertEqual((sorting.compared_by(0), sorting.compared_by(1)), (0, 1))
        sorting.do_deed(("sort", 0))
        self.assertEqual(sorting.may_do(), [("give", 0), ("give", 1)])
        sorting.do_deed(("give", 0))
        self.assertEqual(sorting.may_do(), [("give", 1)])
        sorting.do_deed(("give", 1))
        self.assertEqual(sorting.may_do(), [("post",)])
        # (5)+(3 9) twice, then (3 5 9)+(1) once.
        self.assertEqual(sorting.compared_by(0), 3)
        sorting.do_deed(("post",))
        self.assertEqual(sorting.may_do(), [("cut", 0), ("cut", 1)])
        self.assertEqual(sorting.row_of(0), [(1, "d"), (3, "b"), (5, "a"), (9, "c")])
        sorting.do_deed(("cut", 0))
        self.assertEqual(sorting.may_do(), [("cut", 1), ("take", 0, 1)])
        self.assertEqual(sorting.row_of(0), [(1, "d"), (3, "b")])
        self.assertEqual(sorting.room_of(0), (2, 4))
        sorting.do_deed(("take", 0, 1))
        self.assertEqual(sorting.may_do(), [("cut", 1)])
        self.assertEqual(sorting.row_of(1), [(2, "f"), (4, "e")])
        self.assertEqual(sorting.room_of(1), (4, 4))
        sorting.do_deed(("cut", 1))
        self.assertEqual(sorting.may_do(), [("merge", 1), ("take", 1, 0)])
        self.assertEqual(sorting.row_of(1), [(4, "e")])
        self.assertEqual(sorting.room_of(1), (3, 4))
        sorting.do_deed(("merge", 1))
        self.assertEqual(sorting.may_do(), [("take", 1, 0)])
        self.assertEqual(sorting.row_of(1), [(4, "e"), (5, "a"), (9, "c")])
        # (5 9) of hand 0 goes ahead of (4) in the order of hands, and one comparison is enough.
        self.assertEqual(sorting.compared_by(1), 2)
        self.assertIs(sorting.is_done(), False)
        sorting.do_deed(("take", 1, 0))
        self.assertEqual(sorting.room_of(0), (3, 4))
        self.assertEqual(sorting.row_of(0), [(1, "d"), (3, "b")])
        sorting.do_deed(("merge", 0))
        self.assertEqual(sorting.may_do(), [])
        self.assertIs(sorting.is_done(), True)
        # (1 3)+(2) twice more.
        self.assertEqual(sorting.compared_by(0), 5)
        self.assertEqual(sorting.room_of(0), (3, 4))
        self.assertEqual(
            sorting.all_in_order(), [(1, "d"), (2, "f"), (3, "b"), (4, "e"), (5, "a"), (9, "c")]
        )

    def test_one_hand(self):
        for keys in ([], [1], [3, 2, 1], [1, 1, 1], range(30)):
            for s in (1, 3, 8):
                rows = tagged_rows([keys])
                self.run_by(rows, s, first_told)
                self.assertEqual(
                    do_all(Sorting(rows, s)), [("sort", 0), ("give", 0), ("post",), ("cut", 0), ("merge", 0)]
                )

    def test_hands_without_things(self):
        for hands in range(1, 7):
            for choose in (first_told, last_told, by_seed(hands)):
                self.run_by([[] for hand in range(hands)], 3, choose)
                for holder in range(hands):
                    rows = [[] for hand in range(hands)]
                    rows[holder] = [(2, "a"), (1, "b"), (2, "a")]
                    self.run_by(rows, 2, choose)

    def test_all_orders_of_two_hands(self):
        rows = [[(1, "c"), (0, "b"), (1, "a")], [(1, "z"), (0, "y")]]
        orders = self.walk(rows, 2, [])
        # Six ways to sort and give; behind the post the two cuts, letters and merges in any order that is due.
        self.assertEqual(orders, 6 * self.ways_behind_post())

    def ways_behind_post(self):
        deeds = [("cut", 0), ("cut", 1), ("take", 0, 1), ("take", 1, 0), ("merge", 0), ("merge", 1)]
        ways = 0
        for order in itertools.permutations(deeds):
            at = order.index
            ways += (
                at(("cut", 0)) < at(("take", 0, 1)) < at(("merge", 1)) > at(("cut", 1))
                and at(("cut", 1)) < at(("take", 1, 0)) < at(("merge", 0)) > at(("cut", 0))
            )
        return ways

    def walk(self, rows, s, done):
        """Every order that begins so; tells how many there are."""
        self.assertLessEqual(len(done), len(all_deeds(len(rows))))
        sorting = Sorting(rows, s)
        for deed in done:
            sorting.do_deed(deed)
        deeds = sorting.may_do()
        if not deeds:
            self.ended(sorting, rows, s)
            return 1
        return sum(self.walk(rows, s, done + [deed]) for deed in deeds)

    def test_small_rows_of_two_hands(self):
        for at, rows in enumerate(small_rows_of_hands(2, 3, (0, 1))):
            self.run_by(rows, 1 + at % 8, (first_told, last_told, by_seed(at))[at % 3])

    def test_small_rows_of_three_hands(self):
        for at, rows in enumerate(small_rows_of_hands(3, 2, (0, 1))):
            self.run_by(rows, 1 + at % 3, by_seed(at))

    def test_mixed_rows_in_mixed_orders(self):
        for hands in range(1, 7):
            for s in range(1, 9):
                self.run_by(mixed_rows(f"{hands} {s}", hands, 40), s, by_seed(s))

    def test_the_same_comes_of_every_order(self):
        for hands in (2, 3, 6):
            rows = mixed_rows(hands, hands, 30)
            told = []
            for choose in [first_told, last_told] + [by_seed(seed) for seed in range(10)]:
                sorting = Sorting(rows, 3)
                done = do_all(sorting, choose)
                self.assertEqual(sorted(done), sorted(all_deeds(hands)))
                told.append([(sorting.row_of(hand), sorting.compared_by(hand)) for hand in range(hands)])
            self.assertEqual(told, [told[0]] * len(told))

    def test_six_rows_of_two_hundred(self):
        for spread in (1, 5, 100003):
            rows = tagged_rows([
                [(place * place * 31 + hand * 17) % spread for place in range(200)] for hand in range(6)
            ])
            for s, choose in ((1, first_told), (8, by_seed(spread))):
                sorting = Sorting(rows, s)
                do_all(sorting, choose)
                self.ended(sorting, rows, s)

    def test_great_keys(self):
        self.run_by(tagged_rows([[GREAT, -GREAT, 0, GREAT], [GREAT - 1, -GREAT]]), 3, by_seed(1))

    def test_like_things_stay_in_their_order(self):
        rows = [[(1, "z"), (0, "y"), (1, "x")], [(1, "c"), (1, "b"), (0, "a")]]
        for seed in range(10):
            sorting = Sorting(rows, 2)
            do_all(sorting, by_seed(seed))
            self.assertEqual(
                sorting.all_in_order(), [(0, "y"), (0, "a"), (1, "z"), (1, "x"), (1, "c"), (1, "b")]
            )

    def test_letters_in_all_orders(self):
        rows = tagged_rows([[3, 1, 2, 2], [2, 3, 1, 2], [2, 2, 1, 3]])
        letters = [deed for deed in all_deeds(3) if deed[0] == "take"]
        plain = [thing for name, thing in listed_by_insertion(rows)]
        told = []
        for order in itertools.permutations(letters):
            sorting = Sorting(rows, 4)
            do_until(sorting, ("cut", 2))
            for deed in order:
                sorting.do_deed(deed)
            for hand in (2, 0, 1):
                sorting.do_deed(("merge", hand))
            self.assertEqual(sorting.all_in_order(), plain)
            told.append([sorting.compared_by(hand) for hand in range(3)])
        self.assertEqual(told, [told[0]] * len(told))


class Making(Deeds):
    def test_refused(self):
        check_no_samples(self, Sorting)

    def test_every_number_that_is_one(self):
        for s in range(1, 9):
            self.assertEqual(Sorting([[], [(1, "a")]], s).may_do(), [("sort", 0), ("sort", 1)])

    def test_rows_changed_behind_the_making_change_nothing(self):
        rows = tagged_rows([[3, 1, 2], [5, 4], []])
        kept = copy.deepcopy(rows)
        model = Model(rows, 2)
        sorting = Sorting(rows, 2)
        for deed in steps(sorting, by_seed(3)):
            # Changed ahead of each deed, and in another way each time.
            if rows:
                rows[0].append((0, "q"))
                rows[0].reverse()
                rows.pop()
            sorting.do_deed(deed)
            model.do_deed(deed)
            self.same(sorting, model)
        self.ended(sorting, kept, 2)

    def test_one_row_handed_in_for_several_hands(self):
        row = [(2, "b"), (1, "a")]
        sorting = Sorting([row, row, row], 2)
        sorting.do_deed(("sort", 1))
        self.assertEqual(row, [(2, "b"), (1, "a")])
        self.assertEqual(sorting.row_of(0), row)
        do_all(sorting)
        self.assertEqual(sorting.all_in_order(), [(1, "a")] * 3 + [(2, "b")] * 3)

    def test_two_sortings_know_nothing_of_one_another(self):
        rows = tagged_rows([[3, 1], [2, 0]])
        one = Sorting(rows, 2)
        other = Sorting(rows, 2)
        fresh = seen(Sorting(rows, 2), 2)
        do_all(one)
        self.assertEqual(seen(other, 2), fresh)
        do_all(other)
        self.assertEqual(seen(one, 2), seen(other, 2))


class Refusals(Deeds):
    def wrong_deeds(self, hands):
        """Deeds of no hand, and of forms that none has."""
        wrong = [("post", 0), ("post", 0, 1), ("sort",), ("give",), ("cut",), ("merge",), ("take",), (), ("",)]
        for word in ("sort", "give", "cut", "merge"):
            wrong += [(word, hand) for hand in (-1, -hands, hands, hands + 1, GREAT, -GREAT, 10 ** 5000)]
            wrong += [(word, 0, 0), (word, 0, 1), (word, "0"), (word, None), (word, [0]), (word, (0,)), (word, 0.0)]
            wrong += [(word, True), (word, False), (word, True, 0), [word, 0], [word, True], word, (word, 0, None)]
            wrong += [(word.upper(), 0), (word + " ", 0), (" " + word, 0), (word.capitalize(), 0), (0, word)]
            wrong += [((word, 0),), ([word], 0), ((word,), 0), (word[:-1], 0), (word + "s", 0), [(word, 0)]]
        wrong += [("take", hand, hand) for hand in range(hands)]
        wrong += [("take", 0), ("take", 0, 1, 2), ("take", -1, 0), ("take", 0, -1), ("take", 0, hands)]
        wrong += [("take", hands, 0), ("take", False, True), ("take", 0, True), ("take", True, 0), ("take", False, 1)]
        wrong += [["take", 0, 1], ("take", (0, 1)), ("take", "0", "1"), ("take", 0.0, 1.0), ("take", 1.0, 0)]
        wrong += [["post"], "post", ("POST",), ("post", None), ("post", ""), (("post",),), ("all",), ("has", 0)]
        wrong += [0, 1, -1, True, False, "", "sort 0", [], {"sort": 0}, GREAT, 10 ** 5000]
        wrong += oddities()
        wrong += [(thing,) for thing in oddities()] + [(thing, 0) for thing in oddities()]
        wrong += [("sort", thing) for thing in oddities()] + [("cut", thing) for thing in oddities()]
        wrong += [("take", 0, thing) for thing in oddities()] + [("take", thing, 1) for thing in oddities()]
        return wrong

    def check_refused(self, sorting, hands):
        """Whatever may not be done now is refused, and nothing changes."""
        before = seen(sorting, hands)
        may = sorting.may_do()
        for deed in all_deeds(hands):
            if deed not in may:
                self.refused(sorting.do_deed, deed)
        for deed in self.wrong_deeds(hands):
            self.refused(sorting.do_deed, deed)
        self.assertEqual(seen(sorting, hands), before)

    def test_at_every_step(self):
        for hands in (1, 2, 3):
            rows = mixed_rows(f"refused {hands}", hands, 12)
            for choose in (first_told, last_told, by_seed(hands)):
                sorting = Sorting(rows, 2)
                self.check_refused(sorting, hands)
                for deed in steps(sorting, choose):
                    sorting.do_deed(deed)
                    self.check_refused(sorting, hands)
                self.ended(sorting, rows, 2)

    def test_every_deed_that_may_not_be_done_of_six_hands(self):
        rows = mixed_rows("six", 6, 12)
        sorting = Sorting(rows, 2)
        for due in steps(sorting, by_seed(6)):
            before = seen(sorting, 6)
            for deed in all_deeds(6):
                if deed not in sorting.may_do():
                    self.refused(sorting.do_deed, deed)
            self.assertEqual(seen(sorting, 6), before)
            sorting.do_deed(due)
        self.ended(sorting, rows, 2)

    def test_a_deed_is_done_once(self):
        sorting = Sorting(tagged_rows([[2, 1], [3, 0]]), 2)
        done = []
        for deed in steps(sorting, by_seed(7)):
            sorting.do_deed(deed)
            done.append(deed)
            for again in done:
                self.refused(sorting.do_deed, again)
        self.assertEqual(len(set(done)), len(done))

    def test_tuples_that_hold_themselves(self):
        knot = []
        knot.append(("sort", knot))
        sorting = Sorting([[], []], 1)
        self.refused(sorting.do_deed, knot[0])
        self.refused(sorting.do_deed, ("sort", knot))
        self.refused(sorting.do_deed, knot)

    def test_long_tuples(self):
        sorting = Sorting([[], []], 1)
        self.refused(sorting.do_deed, ("sort",) + (0,) * 1400)
        self.refused(sorting.do_deed, ("sort" * 1000, 0))

    def test_no_hand(self):
        for hands in range(1, 7):
            sorting = Sorting(mixed_rows(hands, hands, 5), 1)
            for choose in (first_told, last_told):
                before = seen(sorting, hands)
                for asked in (sorting.row_of, sorting.room_of, sorting.compared_by):
                    self.refused(asked, hands)
                    self.refused(asked, -hands)
                    for h in NO_HANDS + tuple(oddities()):
                        self.refused(asked, h)
                    self.refused(asked, Unhelpful())
                self.assertEqual(seen(sorting, hands), before)
                do_all(sorting, choose)

    def test_all_in_order_ahead_of_the_end(self):
        rows = tagged_rows([[2, 1], [3, 0]])
        sorting = Sorting(rows, 2)
        many = 0
        for deed in steps(sorting):
            before = seen(sorting, 2)
            self.assertIs(sorting.is_done(), False)
            self.refused(sorting.all_in_order)
            self.assertEqual(seen(sorting, 2), before)
            sorting.do_deed(deed)
            many += 1
        self.assertEqual(many, 11)
        self.assertEqual([key for key, tag in sorting.all_in_order()], [0, 1, 2, 3])

    def test_without_things_too_all_must_be_done(self):
        sorting = Sorting([[], []], 1)
        self.assertIs(sorting.is_done(), False)
        self.refused(sorting.all_in_order)
        do_all(sorting)
        self.assertIs(sorting.is_done(), True)
        self.assertEqual(sorting.all_in_order(), [])


class Room(Deeds):
    def test_the_most_room_is_ahead_of_the_cut(self):
        # The post is (10, 1, 0), so hand 1 keeps its row, and all of hand 0's stays too.
        rows = tagged_rows([[1, 2], [10, 11]])
        for choose in (first_told, last_told):
            sorting = Sorting(rows, 2)
            do_all(sorting, choose)
            self.assertEqual([sorting.room_of(hand) for hand in (0, 1)], [(2, 2), (2, 2)])

    def test_letters_that_come_ahead_of_the_cut_take_room_beside_the_row(self):
        # All things change hands.
        rows = tagged_rows([[10, 11, 12], [1, 2, 3]])
        sorting = Sorting(rows, 3)
        do_until(sorting, ("post",))
        sorting.do_deed(("cut", 0))
        self.assertEqual(sorting.room_of(0), (0, 3))
        self.assertEqual(sorting.row_of(0), [])
        self.assertEqual(sorting.room_of(1), (3, 3))
        sorting.do_deed(("take", 0, 1))
        self.assertEqual(sorting.room_of(1), (6, 6))
        self.assertEqual([key for key, tag in sorting.row_of(1)], [1, 2, 3])
        sorting.do_deed(("cut", 1))
        self.assertEqual(sorting.room_of(1), (3, 6))
        self.assertEqual(sorting.row_of(1), [])
        sorting.do_deed(("merge", 1))
        self.assertEqual(sorting.room_of(1), (3, 6))
        sorting.do_deed(("take", 1, 0))
        self.assertEqual(sorting.room_of(0), (3, 3))
        sorting.do_deed(("merge", 0))
        self.assertEqual(sorting.room_of(0), (3, 3))

    def test_letters_that_come_behind_the_cut(self):
        sorting = Sorting(tagged_rows([[10, 11, 12], [1, 2, 3]]), 3)
        do_until(sorting, ("post",))
        for deed in (("cut", 0), ("cut", 1), ("take", 0, 1)):
            sorting.do_deed(deed)
        self.assertEqual(sorting.room_of(1), (3, 3))

    def test_things_on_their_way_are_nobodys(self):
        sorting = Sorting(tagged_rows([[10, 11, 12], [1, 2, 3]]), 3)
        do_until(sorting, ("post",))
        sorting.do_deed(("cut", 0))
        sorting.do_deed(("cut", 1))
        self.assertEqual([sorting.room_of(hand)[0] for hand in (0, 1)], [0, 0])

    def test_empty_letters_are_waited_for(self):
        sorting = Sorting(tagged_rows([[1, 2], [10, 11]]), 2)
        do_until(sorting, ("post",))
        sorting.do_deed(("cut", 0))
        sorting.do_deed(("cut", 1))
        self.assertEqual(sorting.may_do(), [("take", 0, 1), ("take", 1, 0)])
        self.refused(sorting.do_deed, ("merge", 0))
        sorting.do_deed(("take", 1, 0))
        self.assertEqual(sorting.may_do(), [("merge", 0), ("take", 0, 1)])


class Compared(Deeds):
    def test_own_sorting(self):
        sorting = Sorting(tagged_rows([[6, 5, 4, 3, 2, 1], [1, 2, 3], []]), 2)
        for hand, compared in ((0, 7), (1, 0), (2, 0)):
            self.assertEqual(sorting.compared_by(hand), 0)
            sorting.do_deed(("sort", hand))
            self.assertEqual(sorting.compared_by(hand), compared)

    def test_posts_and_cuts_compare_nothing(self):
        sorting = Sorting(tagged_rows([[2, 4, 6], [1, 3, 5], [1, 2, 3]]), 3)
        # The last one told: no merge is done ahead of a letter.
        for deed in steps(sorting, last_told):
            if deed[0] == "merge":
                break
            sorting.do_deed(deed)
            self.assertEqual([sorting.compared_by(hand) for hand in range(3)], [0, 0, 0])
        self.assertEqual(sorting.may_do(), [("merge", 0), ("merge", 1), ("merge", 2)])

    def test_lots_are_merged_two_by_two_in_the_order_of_hands(self):
        # Samples 9 8 7 6 are one each; posts (7, 2, 0), (8, 1, 0), (9, 0, 0), so hand 3 has all from 9 on.
        rows = [[(9, "a"), (13, "b")], [(8, "c"), (12, "d")], [(7, "e"), (11, "f")], [(6, "g"), (10, "h")]]
        sorting = Sorting(rows, 1)
        do_all(sorting)
        self.assertEqual([len(sorting.row_of(hand)) for hand in range(4)], [1, 1, 1, 5])
        # (9 13)+(12) twice, (11)+(10) once, (9 12 13)+(10 11) three times.
        self.assertEqual([sorting.compared_by(hand) for hand in range(4)], [0, 0, 0, 6])

    def test_lots_without_things_are_left_out(self):
        # Hand 1 has nothing: its empty lot is no partner, so hands 0 and 2 are merged first, and then hand 3.
        rows = [[(1, "a"), (5, "b")], [], [(2, "c"), (6, "d")], [(3, "e"), (4, "f")]]
        sorting = Sorting(rows, 1)
        # Samples 1 2 3, posts at 0, 1 and 2.
        do_all(sorting)
        self.assertEqual(sorting.row_of(3), [(3, "e"), (4, "f"), (5, "b"), (6, "d")])
        # (5)+(6) once, (5 6)+(3 4) twice; with the empty lot as a partner it would be (6)+(3 4) and (5)+(3 4 6).
        self.assertEqual(sorting.compared_by(3), 3)

    def test_the_own_lot_stands_at_its_hands_place(self):
        for at, rows in enumerate(small_rows_of_hands(3, 2, (1, 2))):
            sorting = Sorting(rows, 2)
            model = Model(rows, 2)
            for deed in do_all(sorting, by_seed(at)):
                model.do_deed(deed)
            for hand in range(3):
                self.assertEqual(sorting.compared_by(hand), model.compared_by(hand))


class Own(Deeds):
    def spoil(self, sorting, hands):
        """Changes every list that is told."""
        for hand in range(hands):
            row = sorting.row_of(hand)
            self.assertIsNot(row, sorting.row_of(hand))
            row.append((0, "q"))
            row.reverse()
            row.pop()
        may = sorting.may_do()
        may.append(("merge", 0))
        may.reverse()
        if sorting.is_done():
            sorting.all_in_order().clear()
            sorting.all_in_order().append((0, "q"))

    def test_what_is_told_is_the_askers_own(self):
        rows = tagged_rows([[3, 1, 2, 2], [2, 5, 4], []])
        for rows in (rows, rows[:1]):
            for choose in (first_told, last_told, by_seed(11)):
                sorting = Sorting(rows, 2)
                model = Model(rows, 2)
                self.spoil(sorting, len(rows))
                self.same(sorting, model)
                for deed in steps(sorting, choose):
                    sorting.do_deed(deed)
                    model.do_deed(deed)
                    self.spoil(sorting, len(rows))
                    self.same(sorting, model)
                self.assertIs(sorting.is_done(), True)

    def test_asking_changes_nothing(self):
        rows = tagged_rows([[3, 1], [2, 0], [1, 1]])
        sorting = Sorting(rows, 2)
        for deed in steps(sorting, last_told):
            self.assertEqual(seen(sorting, 3), seen(sorting, 3))
            sorting.do_deed(deed)
        self.assertEqual(seen(sorting, 3), seen(sorting, 3))

    def test_what_was_told_is_not_changed_by_later_deeds(self):
        rows = tagged_rows([[3, 1], [2, 0]])
        sorting = Sorting(rows, 2)
        told = []
        for deed in steps(sorting):
            lists = [sorting.may_do(), sorting.row_of(0), sorting.row_of(1)]
            told.append((lists, copy.deepcopy(lists)))
            sorting.do_deed(deed)
        for lists, kept in told:
            self.assertEqual(lists, kept)


if __name__ == "__main__":
    unittest.main()
