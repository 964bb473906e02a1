"""Hands evened: which things go from one hand to another one, and the rows that come of it, order kept."""


def even_sizes(many, hands):
    """How many of all things each hand has once they are evened."""
    share = many // hands
    more = many - share * hands
    return [share + 1] * more + [share] * (hands - more)


def stretches_by(sizes):
    """Where the things of each hand start and end among all, hand by hand: tuples (start, end)."""
    stretches = []
    start = 0
    for size in sizes:
        stretches.append((start, start + size))
        start += size
    return stretches


def even_stretches(sizes):
    """Where the things that each hand has once they are evened start and end among all."""
    return stretches_by(even_sizes(sum(sizes), len(sizes)))


def even_moves(sizes):
    """The moves (from, to, many) that even hands of these sizes, sorted."""
    moves = []
    for giver, had in enumerate(stretches_by(sizes)):
        for taker, due in enumerate(even_stretches(sizes)):
            many = min(had[1], due[1]) - max(had[0], due[0])
            # What a hand has and is to have stays: no fewer could be moved.
            if giver != taker and many > 0:
                moves.append((giver, taker, many))
    return moves


def even_rows(rows):
    """The rows of hands once they are evened, each a new list."""
    things = []
    for row in rows:
        things.extend(row)
    return [things[start:end] for start, end in even_stretches([len(row) for row in rows])]


def are_even_moves(sizes, moves):
    """Whether these are the moves that even hands of these sizes, in whatever order."""
    return sorted(moves) == even_moves(sizes)
