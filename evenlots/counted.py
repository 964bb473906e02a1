"""The k-th of all things, found by counts: the hands tell names and numbers alone, and no thing changes its hand."""

from evenlots.errors import NoNumber
from evenlots.lots import count_below
from evenlots.things import is_whole, names_of_hand


def check_counted(rows, k):
    """Refuses what is no place among all things."""
    if not is_whole(k) or not 0 <= k < sum([len(row) for row in rows]):
        raise NoNumber("there is no thing at this place")


def middle_of(names):
    return names[len(names) // 2]


def post_of_left(left):
    """The middle one of the middle ones that the hands name of their left names."""
    return middle_of(sorted([middle_of(names) for names in left if names]))


def kth_thing(rows, k):
    """The k-th thing of plain sorting, and in how many rounds it was found: (thing, rounds)."""
    check_counted(rows, k)
    left = [names_of_hand(row, hand) for hand, row in enumerate(rows)]
    due = k
    rounds = 0
    while True:
        rounds += 1
        post = post_of_left(left)
        below = sum([count_below(names, post) for names in left])
        if due == below:
            return (rows[post[1]][post[2]], rounds)
        # Each round lets go of the post at least, so this comes to an end.
        if due < below:
            left = [[name for name in names if name < post] for names in left]
        else:
            left = [[name for name in names if name > post] for names in left]
            due -= below + 1
