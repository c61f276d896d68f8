"""Points and ways of a book, with greatest numbers, whatever the lots and the findings."""
from lotback.contents import amount, contents_behind
from lotback.rowfacts import came_back
from lotback.tracks import tracks_of


def heap_points(tracks):
    """A list: for each row, and behind all, a dict of the last point of each heap ahead of it."""
    last = {}
    points = [last]
    for track in tracks:
        changed = {place: ("heap", place, track.t) for place in track.heaps()}
        last = {**last, **changed}
        points.append(last)
    return points


def ones_of_parts(track, last):
    """Where the ways begin that lead to the parts of a row, in order; None for outside."""
    if track.row[0] == "come":
        return [None]
    if track.takes_from_heap():
        return [last[track.source]]
    return [("out", s) for s, _ in track.parts]


def part_ones(book):
    """A list with those of each row."""
    tracks = tracks_of(book)
    points = heap_points(tracks)
    return [ones_of_parts(track, points[track.t]) for track in tracks]


def ways_to_row(track, last):
    """The ways (one, other, units) to the points of a row, except those of heaps."""
    t = track.t
    ones = ones_of_parts(track, last)
    ways = [(ones[i], ("in", t), part[1]) for i, part in enumerate(track.parts)]
    ways.append((("in", t), ("out", t), track.many))
    return ways


def ways_to_heaps(track, last):
    """The ways (one, other, units) to the points of heaps behind a row."""
    t = track.t
    ways = []
    if track.takes_from_heap():
        left = amount(track.behind[track.source])
        if left > 0:
            ways.append((last[track.source], ("heap", track.source, t), left))
    if track.gives_to_heap():
        had = amount(track.before[track.target])
        if had > 0:
            ways.append((last[track.target], ("heap", track.target, t), had))
        ways.append((("out", t), ("heap", track.target, t), track.many))
    return ways


def ways_of_sales(rows):
    """The ways (one, None, units) of the rows whose units are outside for good."""
    back = came_back(rows)
    ways = []
    for t, row in enumerate(rows):
        if row[0] == "waste" or (row[0] == "sell" and t not in back):
            ways.append((("out", t), None, row[2]))
    return ways


def ways_of_rests(book, last):
    """The ways (one, None, units) of what is left in the places."""
    contents = contents_behind(book, len(book[1]))
    ways = []
    for place, kind in book[0]:
        for s, rest in contents[place][1]:
            if kind == "heap":
                ways.append((last[place], None, rest))
            else:
                ways.append((("out", s), None, rest))
    return ways


def way_order(way):
    """What ways are sorted by: those to outside last, those from outside first."""
    return (way[1] is None, way[1] or (), way[0] or ())


def book_ways(book):
    """The list of all ways (one, other, units), in order."""
    tracks = tracks_of(book)
    points = heap_points(tracks)
    ways = []
    for track in tracks:
        ways.extend(ways_to_row(track, points[track.t]))
        ways.extend(ways_to_heaps(track, points[track.t]))
    ways.extend(ways_of_sales(book[1]))
    ways.extend(ways_of_rests(book, points[len(tracks)]))
    return sorted(ways, key=way_order)


def book_points(book):
    """The ascending list of all points."""
    points = []
    for track in tracks_of(book):
        points.extend([("in", track.t), ("out", track.t)])
        points.extend([("heap", place, track.t) for place in track.heaps()])
    return sorted(points)
