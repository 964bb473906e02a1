"""Samples of the hands' sorted rows, the posts chosen of them, and the bound that no lot is above."""

from evenlots.errors import NoNumber
from evenlots.things import is_whole, names_of_hand

MOST_SAMPLES = 8


def check_asked(s):
    """Refuses what is no number of samples that a hand may be asked for."""
    if not is_whole(s) or not 1 <= s <= MOST_SAMPLES:
        # The number itself is not told: Python refuses to write one of several thousand figures.
        raise NoNumber(f"a hand is asked for 1 to {MOST_SAMPLES} samples")


def samples_of_hand(names, s):
    """Of the sorted names of one hand's things those that it gives as samples."""
    many = len(names)
    if many == 0:
        return []
    # A hand with fewer things than s would come to the same place several times.
    places = sorted(set([turn * many // s for turn in range(s)]))
    return [names[place] for place in places]


def samples_of(rows, s):
    """The names of all hands' samples, sorted."""
    check_asked(s)
    samples = []
    for hand, row in enumerate(rows):
        samples.extend(samples_of_hand(names_of_hand(row, hand), s))
    return sorted(samples)


def posts_among(samples, hands):
    """The posts that part all things into lots for so many hands, of sorted samples."""
    many = len(samples)
    if many == 0:
        return []
    return [samples[turn * many // hands] for turn in range(1, hands)]


def posts_of(rows, s):
    """The names of the posts; none where there is no sample."""
    return posts_among(samples_of(rows, s), len(rows))


def rounded_up(many, parts):
    """One number over another one, rounded up."""
    return (many + parts - 1) // parts


def lot_bound(sizes, s):
    """How many things a lot has at most, whatever the rows of these sizes are."""
    check_asked(s)
    hands = len(sizes)
    greatest = max([rounded_up(size, s) for size in sizes])
    samples = sum([min(size, s) for size in sizes])
    return (rounded_up(samples, hands) + hands) * greatest
