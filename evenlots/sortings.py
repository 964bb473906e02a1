"""A sorting done deed by deed: which deeds may be done, what each hand has, and how often it has compared."""

from evenlots.errors import NoDeed
from evenlots.lots import ends_by_posts
from evenlots.posts import check_asked, posts_among, samples_of_hand
from evenlots.runs import merged_to_one, sorted_by_runs
from evenlots.things import is_whole, names_of_hand

# How far a hand has come with its own deeds.
BEGUN = 0
SORTED = 1
GIVEN = 2
CUT = 3
MERGED = 4


def has_form_of_deed(thing):
    """Whether anything at all is a tuple of a word and whole numbers."""
    # Looked at ahead of any comparing: True is like 1, and things of other kinds may fail when they are compared.
    if not isinstance(thing, tuple) or len(thing) == 0 or not isinstance(thing[0], str):
        return False
    return all([is_whole(part) for part in thing[1:]])


def cut_at(row, ends):
    """The stretches of a row that end at these places, each a new list."""
    lots = []
    start = 0
    for end in ends:
        lots.append(row[start:end])
        start = end
    return lots


# A hand keeps its row as handed in beside the one that stands, for names tell places in the first.
class Hand:
    def __init__(self, number, row):
        self.number = number
        self.handed = list(row)
        self.row = list(row)
        self.came = {}
        self.stage = BEGUN
        self.most = len(row)
        self.compared = 0

    def room(self):
        return len(self.row) + sum([len(lot) for lot in self.came.values()])

    def sorted_names(self):
        return names_of_hand(self.handed, self.number)

    def sort_row(self):
        told = sorted_by_runs(self.row)
        self.row = told[0]
        self.compared += told[1]
        self.stage = SORTED

    def give_samples(self, s):
        self.stage = GIVEN
        return samples_of_hand(self.sorted_names(), s)

    def cut_row(self, posts, hands):
        """Keeps the hand's own lot, and tells the lots of all hands."""
        lots = cut_at(self.row, ends_by_posts(self.sorted_names(), posts, hands))
        self.row = lots[self.number]
        self.stage = CUT
        return lots

    def take_letter(self, sender, lot):
        self.came[sender] = lot
        self.most = max(self.most, self.room())

    def merge_lots(self):
        lots = dict(self.came)
        lots[self.number] = self.row
        # Like keys go by hands, so the order in which letters came must not count.
        in_order = [lots[sender] for sender in sorted(lots)]
        told = merged_to_one([lot for lot in in_order if lot])
        self.row = told[0]
        self.compared += told[1]
        self.came = {}
        self.stage = MERGED


class Sorting:
    def __init__(self, rows, s):
        check_asked(s)
        self.asked = s
        self.hands = [Hand(number, row) for number, row in enumerate(rows)]
        self.samples = []
        self.posts = None
        self.letters = {}

    def may_do(self):
        """The deeds that may be done now, sorted."""
        deeds = [("take", way[0], way[1]) for way in self.letters]
        if self.may_post():
            deeds.append(("post",))
        for hand in self.hands:
            word = self.word_due(hand)
            if word is not None:
                deeds.append((word, hand.number))
        return sorted(deeds)

    def may_post(self):
        return self.posts is None and all([hand.stage == GIVEN for hand in self.hands])

    def word_due(self, hand):
        """The word of the deed that this hand may do by itself, or None."""
        if hand.stage == BEGUN:
            return "sort"
        if hand.stage == SORTED:
            return "give"
        if hand.stage == GIVEN and self.posts is not None:
            return "cut"
        if hand.stage == CUT and len(hand.came) == len(self.hands) - 1:
            return "merge"
        return None

    def do_deed(self, deed):
        """Does a deed that may be done."""
        if not has_form_of_deed(deed) or deed not in self.may_do():
            raise NoDeed("this is no deed that may be done now")
        word = deed[0]
        if word == "post":
            self.posts = posts_among(sorted(self.samples), len(self.hands))
        elif word == "take":
            self.hands[deed[2]].take_letter(deed[1], self.letters.pop((deed[1], deed[2])))
        else:
            self.do_by_hand(word, self.hands[deed[1]])

    def do_by_hand(self, word, hand):
        if word == "sort":
            hand.sort_row()
        elif word == "give":
            self.samples.extend(hand.give_samples(self.asked))
        elif word == "cut":
            self.send_lots(hand.number, hand.cut_row(self.posts, len(self.hands)))
        else:
            hand.merge_lots()

    def send_lots(self, sender, lots):
        for taker, lot in enumerate(lots):
            if taker != sender:
                self.letters[(sender, taker)] = lot

    def hand_at(self, h):
        if not is_whole(h) or not 0 <= h < len(self.hands):
            raise NoDeed("there is no such hand")
        return self.hands[h]

    def handed_rows(self):
        """The rows as they were handed in, each a new list."""
        return [list(hand.handed) for hand in self.hands]

    def is_done(self):
        """Whether all is done."""
        return all([hand.stage == MERGED for hand in self.hands])

    def row_of(self, h):
        """A hand's row as it stands."""
        return list(self.hand_at(h).row)

    def room_of(self, h):
        """How many things a hand has, with letters that came, and the most it had so far: (now, most)."""
        hand = self.hand_at(h)
        return (hand.room(), hand.most)

    def compared_by(self, h):
        """How often a hand has compared so far."""
        return self.hand_at(h).compared

    def all_in_order(self):
        """What the hands have behind all, as one list, hand by hand."""
        if not self.is_done():
            raise NoDeed("not all is done yet")
        things = []
        for hand in self.hands:
            things.extend(hand.row)
        return things
