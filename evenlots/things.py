"""Things, rows and rows of hands: what they are, and how plain sorting orders them."""

MOST_HANDS = 6
MOST_LETTERS = 8


def is_whole(thing):
    # isinstance counts True and False as ints, the document does not.
    return isinstance(thing, int) and not isinstance(thing, bool)


def is_tag(thing):
    if not isinstance(thing, str) or not 1 <= len(thing) <= MOST_LETTERS:
        return False
    # islower would let in small letters of other scripts, and signs beside a letter.
    return all(["a" <= sign <= "z" for sign in thing])


def is_thing(thing):
    return isinstance(thing, tuple) and len(thing) == 2 and is_whole(thing[0]) and is_tag(thing[1])


def is_row(thing):
    return isinstance(thing, list) and all([is_thing(part) for part in thing])


def are_rows(thing):
    """Whether anything at all is rows of hands."""
    return isinstance(thing, list) and 1 <= len(thing) <= MOST_HANDS and all([is_row(part) for part in thing])


def names_of_hand(row, hand):
    """The names (key, hand, place) of one hand's things, in the order of its sorted row."""
    return sorted([(thing[0], hand, place) for place, thing in enumerate(row)])


def names_plainly(rows):
    """The names of all things, in the order of plain sorting."""
    names = []
    for hand, row in enumerate(rows):
        names.extend(names_of_hand(row, hand))
    return sorted(names)


def sorted_plainly(rows):
    """All things in the order of plain sorting."""
    # The things themselves are not compared: like keys would go by their tags.
    return [rows[hand][place] for key, hand, place in names_plainly(rows)]
