"""What several test files need: rows to try, odd things to hand in, and the document's words done the slow way."""

import copy
import fractions
import itertools
import random
import re

from evenlots.errors import LotError, NoNumber

GREAT = 10 ** 30 - 1
# What is no number of samples; the last ones can't even be written by Python's str.
NO_SAMPLES = (0, 9, -1, 10, -8, 64, 2000, GREAT, -GREAT, 10 ** 5000, -(10 ** 5000))

# [20] as one pattern.
THING = r"(?:0|-?[1-9][0-9]{0,29}):[a-z]{1,8}"
ROW = rf"(?:-|{THING}(?:, {THING})*)"
ROWS = re.compile(rf"{ROW}(?:; {ROW}){{0,5}}")


class Unhelpful:
    """Fails whatever is asked of it."""

    def __len__(self):
        raise RuntimeError("len")

    def __iter__(self):
        raise RuntimeError("iter")

    def __eq__(self, other):
        raise RuntimeError("eq")

    def __lt__(self, other):
        raise RuntimeError("lt")

    def __bool__(self):
        raise RuntimeError("bool")

    def __getitem__(self, place):
        raise RuntimeError("index")

    def __str__(self):
        raise RuntimeError("str")

    def __repr__(self):
        raise RuntimeError("repr")

    __hash__ = None


def oddities():
    """Things that are no list, no tuple, no whole number and no text."""
    return [
        None, 0.0, 1.5, float("nan"), 1j, fractions.Fraction(1), b"abc", bytearray(b"abc"), {}, {1: 2}, set(),
        frozenset([1]), range(2), iter([]), (part for part in [[]]), object(), Unhelpful(), len, list, lambda: [],
        Ellipsis, NotImplemented, ValueError("no"), memoryview(b"a"),
    ]


def tagged(keys):
    """A row with these keys, whose tags tell places so that like keys can be told apart."""
    letters = "zyxwvutsrqponmlkjihgfedcba"
    return [(key, letters[place // 26 % 26] + letters[place % 26]) for place, key in enumerate(keys)]


def tagged_rows(keys_of_hands):
    """Rows of hands with these keys, whose tags tell hands and places."""
    return [
        [(key, "fedcba"[hand] + tag) for key, tag in tagged(keys)] for hand, keys in enumerate(keys_of_hands)
    ]


def small_rows_of_hands(hands, most, keys):
    """All rows of so many hands with at most so many things each."""
    rows = [row for many in range(most + 1) for row in itertools.product(keys, repeat=many)]
    for chosen in itertools.product(rows, repeat=hands):
        yield tagged_rows(chosen)


def mixed_rows(seed, hands, most):
    """Rows of hands by a fixed seed: few or many like keys, rising and falling rows, hands without things."""
    dice = random.Random(seed)
    spread = dice.choice((0, 1, 3, 20, 1000, GREAT))
    keys_of_hands = []
    for hand in range(hands):
        many = dice.choice((0, 1, 2, dice.randint(0, 9), dice.randint(0, most), most))
        keys = [dice.randint(-spread, spread) for place in range(many)]
        keys_of_hands.append(dice.choice((keys, keys, sorted(keys), sorted(keys, reverse=True))))
    return tagged_rows(keys_of_hands)


def long_rows():
    """Rows of more than two hundred things."""
    for many, hands in ((201, 6), (300, 3), (700, 2), (1200, 1)):
        for spread in (1, 2, 40, 100003):
            yield tagged_rows([
                [(place * place * 31 + hand * 17) % spread for place in range(many)] for hand in range(hands)
            ])
    yield tagged_rows([range(600), [], range(600, 0, -1), [300] * 400])
    yield tagged_rows([range(hand * 250, hand * 250 + 250) for hand in range(5)])
    yield tagged_rows([range(hand * 250, hand * 250 + 250) for hand in range(5, 0, -1)])
    yield tagged_rows([[], [], [], [], [], range(1400)])


def check_refusal(case, refusal, ask, *parts):
    """What is asked is refused with this class itself, made with one text."""
    with case.assertRaises(LotError) as caught:
        ask(*parts)
    case.assertIs(type(caught.exception), refusal)
    case.assertEqual(len(caught.exception.args), 1)
    case.assertIs(type(caught.exception.args[0]), str)
    case.assertEqual(str(caught.exception), caught.exception.args[0])


def check_no_samples(case, ask):
    """Whoever asks with rows and a number of samples that is none is refused, and the rows stay."""
    for s in NO_SAMPLES:
        for rows in ([[]], [[], []], tagged_rows([[3, 1, 2], [], [5]])):
            before = copy.deepcopy(rows)
            check_refusal(case, NoNumber, ask, rows, s)
            case.assertEqual(rows, before)


def by_keys(row):
    """Sorted by keys with like keys in the row's order."""
    return sorted(row, key=lambda thing: thing[0])


def compared_in_merging(one, other):
    """From the end of a merge: all are compared once but those left when one row is used up."""
    if not one or not other:
        return 0
    if other[-1][0] < one[-1][0]:
        left = len([thing for thing in one if thing[0] > other[-1][0]])
    else:
        left = len([thing for thing in other if thing[0] >= one[-1][0]])
    return len(one) + len(other) - left


def compared_by_twos(rows):
    """How often the rounds of [8] compare with these sorted rows."""
    parts = list(rows)
    compared = 0
    while len(parts) > 1:
        pairs = [parts[place:place + 2] for place in range(0, len(parts), 2)]
        compared += sum(compared_in_merging(*pair) for pair in pairs if len(pair) == 2)
        parts = [by_keys(sum(pair, [])) for pair in pairs]
    return compared


def runs_by_falls(row):
    """Runs as the stretches between the places where a key falls."""
    starts = [place for place in range(len(row)) if place == 0 or row[place][0] < row[place - 1][0]]
    return [row[start:end] for start, end in zip(starts, starts[1:] + [len(row)])]


def compared_in_sorting(row):
    return compared_by_twos(runs_by_falls(row))


def least_exponent(many):
    """The least e with 2 ** e not below many."""
    exponent = 0
    while 2 ** exponent < many:
        exponent += 1
    return exponent


def listed_by_insertion(rows):
    """Plain sorting by its words alone: (name, thing), each put behind all that are not above it."""
    pairs = []
    for hand, row in enumerate(rows):
        for place, thing in enumerate(row):
            key = thing[0]
            at = len(pairs)
            while at > 0 and pairs[at - 1][0][0] > key:
                at -= 1
            pairs.insert(at, ((key, hand, place), thing))
    return pairs


def names_by_insertion(rows):
    return [name for name, thing in listed_by_insertion(rows)]


def samples_by_words(rows, s):
    """[9] by its words: of each hand's sorted names those at k * n // s, each place once."""
    names = names_by_insertion(rows)
    samples = []
    for hand in range(len(rows)):
        own = [name for name in names if name[1] == hand]
        places = []
        for k in range(s):
            place = k * len(own) // s
            if own and place not in places:
                places.append(place)
        samples += [own[place] for place in places]
    # By the places in plain sorting, not by comparing.
    return [name for name in names if name in samples]


def posts_by_words(rows, s):
    """[10] by its words."""
    samples = samples_by_words(rows, s)
    if not samples:
        return []
    return [samples[j * len(samples) // len(rows)] for j in range(1, len(rows))]


def lot_by_words(part, posts):
    """The one lot of a name (or of a key, among keys of posts): not below its post, and below the next one."""
    lots = [
        lot for lot in range(len(posts) + 1)
        if (lot == 0 or part >= posts[lot - 1]) and (lot == len(posts) or part < posts[lot])
    ]
    if len(lots) != 1:
        raise AssertionError(f"{part} is of lots {lots}")
    return lots[0]


def bound_by_words(sizes, s):
    """[11] by its words."""
    greatest = 0
    for size in sizes:
        while greatest * s < size:
            greatest += 1
    samples = sum(size if size < s else s for size in sizes)
    share = 0
    while share * len(sizes) < samples:
        share += 1
    return (share + len(sizes)) * greatest


def sizes_by_words(rows, s):
    posts = posts_by_words(rows, s)
    lots = [lot_by_words(name, posts) for name in names_by_insertion(rows)]
    return [lots.count(lot) for lot in range(len(rows))]


def key_sizes_by_words(rows, s):
    posts = [post[0] for post in posts_by_words(rows, s)]
    lots = [lot_by_words(thing[0], posts) for row in rows for thing in row]
    return [lots.count(lot) for lot in range(len(rows))]


def all_deeds(hands):
    """Every deed that so many hands ever do."""
    deeds = [("post",)]
    for hand in range(hands):
        deeds += [("sort", hand), ("give", hand), ("cut", hand), ("merge", hand)]
        deeds += [("take", hand, taker) for taker in range(hands) if taker != hand]
    return deeds


def first_told(deeds):
    return deeds[0]


def last_told(deeds):
    return deeds[-1]


def by_seed(seed):
    dice = random.Random(seed)
    return lambda deeds: dice.choice(deeds)


def steps(sorting, choose=first_told):
    """The deeds of a run, each chosen once the one ahead of it has been done by whoever walks them."""
    # Bounded, so that a deed without an end fails the tests and doesn't hold them up.
    for step in all_deeds(6):
        if not sorting.may_do():
            return
        yield choose(sorting.may_do())
    if sorting.may_do():
        raise AssertionError("more may be done than there are deeds")


def do_all(sorting, choose=first_told):
    """Does all that may be done; tells the deeds in their order."""
    done = []
    for deed in steps(sorting, choose):
        sorting.do_deed(deed)
        done.append(deed)
    return done


def dealt(many, hands):
    """[17]'s even sizes: how many places each hand has where they are dealt one by one."""
    return [len(range(hand, many, hands)) for hand in range(hands)]


def owners(sizes):
    """For each place in all the hand that has it."""
    return [hand for hand, size in enumerate(sizes) for place in range(size)]


def kth_by_words(rows, k):
    """[19] by its words."""
    listed = listed_by_insertion(rows)
    left = [name for name, thing in listed]
    rounds = 0
    # Bounded, for each round lets go of the post at least.
    for turn in range(len(listed)):
        rounds += 1
        named = []
        for hand in range(len(rows)):
            own = [name for name in left if name[1] == hand]
            if own:
                named.append(own[len(own) // 2])
        # Left names are in the order of plain sorting, so those named need no comparing.
        named = [name for name in left if name in named]
        post = named[len(named) // 2]
        below = left.index(post)
        if k == below:
            return (dict(listed)[post], rounds)
        if k < below:
            left = left[:below]
        else:
            left = left[below + 1:]
            k -= below + 1
    raise AssertionError("no thing is left")


def written(row):
    """[20]'s writing of a row."""
    text = ""
    for key, tag in row:
        text = text + (", " if text else "") + "%d:%s" % (key, tag)
    return text or "-"


def written_rows(rows):
    """[20]'s writing of rows of hands."""
    text = written(rows[0])
    for row in rows[1:]:
        text += "; " + written(row)
    return text


def read_by_pattern(text):
    """The rows that a text writes, found by searching it, or None."""
    if not ROWS.fullmatch(text):
        return None
    rows = []
    for row in text.split(";"):
        rows.append([(int(key), tag) for key, tag in re.findall(r"(-?[0-9]+):([a-z]+)", row)])
    return rows
