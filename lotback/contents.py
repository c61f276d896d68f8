"""What lies in the places behind some rows.

A content is a pair (kind, queue). The queue has pairs (s, rest), of a pipe one
for each parcel that is still there; of a heap one (None, units), or none: so
both are taken from in the same way, from the front.

Nothing here modifies what it is given, because operators of objects rest on it.
"""
from lotback.rowfacts import source_of, target_of, units_of_row


def no_contents(places):
    """A dict of the contents of places, all empty."""
    return {place: (kind, ()) for place, kind in places}


def amount(content):
    """How many units a content has."""
    return sum([rest for _, rest in content[1]])


def rest_in(content, s):
    """How many units of parcel s a content has; of a heap, with None, all."""
    return sum([rest for parcel, rest in content[1] if parcel == s])


def taken_off(content, n):
    """The pair of the parts that n units taken have, and of the content that is left."""
    kind, queue = content
    parts = []
    left = []
    for s, rest in queue:
        taken = min(n, rest)
        n = n - taken
        if taken > 0:
            parts.append((s, taken))
        if rest > taken:
            left.append((s, rest - taken))
    return tuple(parts), (kind, tuple(left))


def joined(content, t, n):
    """The content with n units of parcel t more."""
    kind, queue = content
    if kind == "heap":
        return kind, ((None, amount(content) + n),)
    return kind, (*queue, (t, n))


def parts_taken(contents, rows, t):
    """The parts of row t, by the contents ahead of it."""
    row = rows[t]
    n = units_of_row(rows, t)
    if row[0] == "come":
        return ((None, n),)
    if row[0] == "back":
        return ((row[1], n),)
    parts, _ = taken_off(contents[row[1]], n)
    return parts


def contents_after(contents, rows, t):
    """The contents behind row t, by those ahead of it."""
    source = source_of(rows[t])
    target = target_of(rows[t])
    n = units_of_row(rows, t)
    if source is not None:
        _, left = taken_off(contents[source], n)
        contents = {**contents, source: left}
    if target is not None:
        contents = {**contents, target: joined(contents[target], t, n)}
    return contents


def contents_behind(book, t):
    """The contents behind the first t rows of a book."""
    places, rows = book
    contents = no_contents(places)
    for k in range(t):
        contents = contents_after(contents, rows, k)
    return contents


def units_there(book, places):
    """The tuple of how many units lie in each of these places behind all rows."""
    contents = contents_behind(book, len(book[1]))
    return tuple([amount(contents[place]) for place in places])
