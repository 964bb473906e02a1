"""The desk: sortings by names, which are told what to do, and asked, by rows of words."""

from evenlots.counted import kth_thing
from evenlots.errors import NoName, NoRow
from evenlots.lots import key_lot_sizes, lot_sizes
from evenlots.posts import lot_bound
from evenlots.sortings import Sorting
from evenlots.texts import are_figures, read_rows, show_row, show_thing
from evenlots.things import is_tag

# Words in capitals are places; S, H and K are numbers.
FORMS = (
    "rows NAME S TEXT",
    "sort NAME H",
    "give NAME H",
    "post NAME",
    "cut NAME H",
    "take NAME H H",
    "merge NAME H",
    "all NAME",
    "drop NAME",
    "may NAME",
    "has NAME H",
    "room NAME H",
    "compared NAME H",
    "bound NAME",
    "sizes NAME",
    "keys NAME",
    "end NAME",
    "kth NAME K",
    "names",
)
DEEDS = ("sort", "give", "post", "cut", "take", "merge")
MOST_FIGURES = 4
DONE = "ok"


def fits_place(word, place):
    if place == "NAME":
        # A name of the desk is formed as a tag is.
        return is_tag(word)
    if place in ("S", "H", "K"):
        return are_figures(word, MOST_FIGURES)
    return place == "TEXT" or word == place


def words_by_form(row, form):
    """The words of a row that is of this form, or None."""
    places = form.split(" ")
    # All that is left behind the last blank due is one word: TEXT may hold blanks, and no other word that fits does.
    words = row.split(" ", len(places) - 1)
    if len(words) != len(places):
        return None
    if not all([fits_place(word, place) for word, place in zip(words, places)]):
        return None
    return words


def words_of(row):
    """The words of a row of the desk; anything else is refused."""
    if isinstance(row, str):
        for form in FORMS:
            words = words_by_form(row, form)
            if words is not None:
                return words
    raise NoRow("this is no row of the desk")


def show_words(words):
    return " ".join([str(word) for word in words])


def do_all(sorting):
    deeds = sorting.may_do()
    while deeds:
        sorting.do_deed(deeds[0])
        deeds = sorting.may_do()


def told_of_whole(sorting, word):
    """The answer to a question that names no hand."""
    rows = sorting.handed_rows()
    if word == "may":
        return str(len(sorting.may_do()))
    if word == "bound":
        return str(lot_bound([len(row) for row in rows], sorting.asked))
    if word == "sizes":
        return show_words(lot_sizes(rows, sorting.asked))
    if word == "keys":
        return show_words(key_lot_sizes(rows, sorting.asked))
    return show_row(sorting.all_in_order())


def told_of_number(sorting, word, number):
    """The answer to a question that names a hand, or a place among all things."""
    if word == "has":
        return show_row(sorting.row_of(number))
    if word == "room":
        return show_words(sorting.room_of(number))
    if word == "compared":
        return str(sorting.compared_by(number))
    told = kth_thing(sorting.handed_rows(), number)
    return show_words([show_thing(told[0]), told[1]])


def answer_of(sorting, word, numbers):
    """Does or tells what one sorting is asked for."""
    if word in DEEDS:
        sorting.do_deed(tuple([word] + numbers))
        return DONE
    if word == "all":
        do_all(sorting)
        return DONE
    if numbers:
        return told_of_number(sorting, word, numbers[0])
    return told_of_whole(sorting, word)


class Desk:
    def __init__(self):
        self.sortings = {}

    def names(self):
        """The names that stand for a sorting, in the order of letters."""
        return sorted(self.sortings)

    def say(self, row):
        """The answer to a row; what is refused changes nothing."""
        words = words_of(row)
        if words[0] == "names":
            return show_words(self.names()) if self.sortings else "none"
        name = words[1]
        if words[0] == "rows":
            return self.put_rows(name, int(words[2]), words[3])
        if name not in self.sortings:
            raise NoName("this name stands for nothing")
        if words[0] == "drop":
            self.sortings.pop(name)
            return DONE
        return answer_of(self.sortings[name], words[0], [int(word) for word in words[2:]])

    def put_rows(self, name, s, text):
        # The text is read ahead of the making: it is refused first, and what stood stays until both are good.
        rows = read_rows(text)
        self.sortings[name] = Sorting(rows, s)
        return DONE
