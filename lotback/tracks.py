"""The rows of a book with their parts, and with what lies there ahead of them and behind."""
from lotback.contents import contents_after, no_contents, parts_taken, rest_in
from lotback.rowfacts import source_of, target_of, units_of_row


class Track:
    """Row t of a book; before and behind are the contents of all places."""

    def __init__(self, t, rows, before, behind):
        self.t = t
        self.row = rows[t]
        self.many = units_of_row(rows, t)
        self.source = source_of(rows[t])
        self.target = target_of(rows[t])
        self.parts = parts_taken(before, rows, t)
        self.before = before
        self.behind = behind

    def left_of(self, s):
        """How many units of parcel s are left, behind the row, where it takes from."""
        return rest_in(self.behind[self.source], s)

    def gives_to_heap(self):
        """Whether the row gives to a heap."""
        return self.target is not None and self.before[self.target][0] == "heap"

    def takes_from_heap(self):
        """Whether the row takes from a heap."""
        return self.source is not None and self.before[self.source][0] == "heap"

    def heaps(self):
        """The heaps that the row gives to or takes from."""
        places = []
        if self.takes_from_heap():
            places.append(self.source)
        if self.gives_to_heap():
            places.append(self.target)
        return places


def tracks_of(book):
    """A list with a Track for each row."""
    places, rows = book
    tracks = []
    before = no_contents(places)
    for t in range(len(rows)):
        behind = contents_after(before, rows, t)
        tracks.append(Track(t, rows, before, behind))
        before = behind
    return tracks
