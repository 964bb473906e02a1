"""A hand's own sorting: the runs of its row, merged two by two, with the comparisons counted."""


def runs_of(row):
    """The longest stretches of a row in which no key falls, in order, each a new list."""
    runs = []
    for thing in row:
        if runs and thing[0] >= runs[-1][-1][0]:
            runs[-1].append(thing)
        else:
            runs.append([thing])
    return runs


def merged_rows(one, other):
    """Two sorted rows as one, and how often was compared: (row, compared)."""
    row = []
    compared = 0
    first = 0
    second = 0
    while first < len(one) and second < len(other):
        compared += 1
        # Only what is below goes ahead, so that like keys keep the order of the rows.
        if other[second][0] < one[first][0]:
            row.append(other[second])
            second += 1
        else:
            row.append(one[first])
            first += 1
    return (row + one[first:] + other[second:], compared)


def merged_by_twos(rows):
    """One round: neighbours merged, a last odd row as it is, and how often was compared: (rows, compared)."""
    merged = []
    compared = 0
    for place in range(0, len(rows) - 1, 2):
        told = merged_rows(rows[place], rows[place + 1])
        merged.append(told[0])
        compared += told[1]
    if len(rows) % 2 == 1:
        merged.append(rows[-1])
    return (merged, compared)


def merged_to_one(rows):
    """Sorted rows merged round by round until one is left: (row, compared)."""
    left = rows
    compared = 0
    while len(left) > 1:
        told = merged_by_twos(left)
        left = told[0]
        compared += told[1]
    if not left:
        return ([], compared)
    # A row that met no other one is still the one handed in, so a copy is told.
    return (list(left[0]), compared)


def sorted_by_runs(row):
    """A row sorted by its runs, and how often was compared: (row, compared)."""
    return merged_to_one(runs_of(row))
