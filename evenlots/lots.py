"""The lots that the posts part the hands' rows into: where they end, and how large they are."""

from evenlots.posts import posts_of
from evenlots.things import names_of_hand


def count_below(parts, post):
    return len([part for part in parts if part < post])


def ends_by_posts(parts, posts, hands):
    """Where the lots of one hand end in its sorted row; parts and posts are names, or keys alone."""
    # Without posts all is of lot 0, and the lots behind it are empty.
    if not posts:
        return [len(parts)] * hands
    return [count_below(parts, post) for post in posts] + [len(parts)]


def sizes_by_ends(ends_of_hands, hands):
    """The sizes of the lots over all hands."""
    sizes = [0] * hands
    for ends in ends_of_hands:
        start = 0
        for lot, end in enumerate(ends):
            sizes[lot] += end - start
            start = end
    return sizes


def lot_ends(rows, s):
    """For each hand the places in its sorted row where its lots end."""
    posts = posts_of(rows, s)
    return [ends_by_posts(names_of_hand(row, hand), posts, len(rows)) for hand, row in enumerate(rows)]


def lot_sizes(rows, s):
    """How many things each lot has, over all hands."""
    return sizes_by_ends(lot_ends(rows, s), len(rows))


def keys_of(parts):
    """The keys of things or of names."""
    return [part[0] for part in parts]


def key_lot_sizes(rows, s):
    """How many things each lot has where the keys alone part them."""
    posts = keys_of(posts_of(rows, s))
    ends_of_hands = [ends_by_posts(keys_of(row), posts, len(rows)) for row in rows]
    return sizes_by_ends(ends_of_hands, len(rows))
