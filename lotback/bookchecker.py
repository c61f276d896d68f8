"""The checker of books."""
from lotback.contents import amount, contents_after, no_contents
from lotback.errors import InvalidPaper
from lotback.kinds import are_places, are_rows
from lotback.rowfacts import came_back, names_of, source_of, target_of


def has_book_form(thing):
    """Whether any value is a pair of tuples, of places and of rows by form."""
    if not isinstance(thing, tuple) or len(thing) != 2:
        return False
    return are_places(thing[0]) and are_rows(thing[1])


def ascend(names):
    """Whether each name is greater than the one before."""
    return all([names[k] < names[k + 1] for k in range(len(names) - 1)])


def can_come_back(rows, t, s):
    """Whether s is a sale ahead of row t that did not come back before it."""
    return s < t and rows[s][0] == "sell" and s not in came_back(rows[:t])


def check_row(contents, rows, t):
    """Raise InvalidPaper if row t is not possible behind these contents."""
    row = rows[t]
    source = source_of(row)
    target = target_of(row)
    for place in (source, target):
        if place is not None and place not in contents:
            raise InvalidPaper("place", t)
    if row[0] == "move" and source == target:
        raise InvalidPaper("same", t)
    if row[0] == "back" and not can_come_back(rows, t, row[1]):
        raise InvalidPaper("sale", t)
    if source is not None and row[-1] > amount(contents[source]):
        raise InvalidPaper("units", t)


def lets_book(thing):
    """How many units lie in all places, if any value is a book."""
    if not has_book_form(thing):
        raise InvalidPaper("shape", -1)
    places, rows = thing
    names = names_of(places)
    if len(names) == 0 or not ascend(names):
        raise InvalidPaper("places", -1)
    contents = no_contents(places)
    for t in range(len(rows)):
        check_row(contents, rows, t)
        contents = contents_after(contents, rows, t)
    return sum([amount(contents[name]) for name in names])


def is_book(thing):
    """Whether any value is a book."""
    try:
        lets_book(thing)
    except InvalidPaper:
        return False
    return True
