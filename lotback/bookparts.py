"""What a book tells of its rows and places, and books made of it."""
from lotback.bookchecker import lets_book
from lotback.contents import amount, contents_behind, parts_taken, rest_in
from lotback.errors import NotUsable, UnknownLot
from lotback.kinds import is_index
from lotback.rowfacts import came_back, names_of, source_of, target_of, units_of_row


def check_place(book, place):
    """Raise NotUsable if any value is no name of a place."""
    if place not in names_of(book[0]):
        raise NotUsable("place", -1)


def check_row_index(book, t):
    """Raise NotUsable if any value is no index of a row."""
    if not is_index(t, len(book[1])):
        raise NotUsable("row", -1)


def check_row_count(book, t):
    """Raise NotUsable if there are no first t rows."""
    if not is_index(t, len(book[1]) + 1):
        raise NotUsable("row", -1)


def lots_of(book):
    """The set of all lots that came."""
    return tuple(sorted(set([row[2] for row in book[1] if row[0] == "come"])))


def came(book, lot):
    """How many units of a lot came."""
    if lot not in lots_of(book):
        raise UnknownLot(lot)
    return sum([row[3] for row in book[1] if row[0] == "come" and row[2] == lot])


def units_of(book, t):
    """How many units parcel t has."""
    check_row_index(book, t)
    return units_of_row(book[1], t)


def taken_from(book, t):
    """The place from which row t takes, or None."""
    check_row_index(book, t)
    return source_of(book[1][t])


def given_to(book, t):
    """The place to which row t gives, or None."""
    check_row_index(book, t)
    return target_of(book[1][t])


def parts_of(book, t):
    """The parts of row t, pairs (s, m)."""
    check_row_index(book, t)
    return parts_taken(contents_behind(book, t), book[1], t)


def units_in(book, place, t):
    """How many units lie in a place behind the first t rows."""
    check_place(book, place)
    check_row_count(book, t)
    return amount(contents_behind(book, t)[place])


def queue_in(book, place, t):
    """The pairs (s, rest) of the parcels in a pipe behind the first t rows; of a heap none."""
    check_place(book, place)
    check_row_count(book, t)
    kind, queue = contents_behind(book, t)[place]
    if kind == "heap":
        return ()
    return queue


def rest_of(book, s, t):
    """What is left of parcel s, behind the first t rows, in the pipe to which row s gave it."""
    check_row_index(book, s)
    check_row_count(book, t)
    place = target_of(book[1][s])
    if place is None:
        return 0
    # The queue of a heap has no parcel with a number: so its rest is 0.
    return rest_in(contents_behind(book, t)[place], s)


def sales_outside(book):
    """The set of the sales that did not come back."""
    rows = book[1]
    back = came_back(rows)
    return tuple([t for t, row in enumerate(rows) if row[0] == "sell" and t not in back])


def beginning(book, t):
    """The book of the first t rows."""
    check_row_count(book, t)
    places, rows = book
    return places, rows[:t]


def with_row(book, row):
    """The book with one row more, any value."""
    places, rows = book
    longer = (places, (*rows, row))
    lets_book(longer)
    return longer
