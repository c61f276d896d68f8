"""What the rows of a book tell by themselves: how many units, from where, to where."""


def source_of(row):
    """The place from which a row takes, or None."""
    if row[0] in ("move", "sell", "waste"):
        return row[1]
    return None


def target_of(row):
    """The place to which a row gives, or None."""
    if row[0] == "come":
        return row[1]
    if row[0] in ("move", "back"):
        return row[2]
    return None


def units_of_row(rows, t):
    """How many units parcel t has; what comes back has as many as were sold."""
    row = rows[t]
    if row[0] == "back":
        return rows[row[1]][2]
    return row[-1]


def came_back(rows):
    """The sales that came back in these rows, as a tuple."""
    return tuple([row[1] for row in rows if row[0] == "back"])


def names_of(places):
    """The names of places, as a tuple."""
    return tuple([name for name, _ in places])
