"""Points and ways of a case, sums of ways, and barriers."""
from lotback.bookways import book_points, book_ways
from lotback.errors import NotUsable
from lotback.kinds import is_number
from lotback.usable import check_lots


def points_of(book):
    """The set of all points."""
    return tuple(book_points(book))


def found_about(case):
    """A dict of the words of the findings, by their rows."""
    return {t: word for word, t in case[1]}


def limited(way, rows, found, lots):
    """The way (one, other, least, greatest) of a way (one, other, units)."""
    one, other, units = way
    if one is None and rows[other[1]][2] not in lots:
        return one, other, 0, 0
    if one is not None and one[0] == "in":
        word = found.get(one[1], None)
        if word == "clean":
            return one, other, 0, 0
        if word == "bad":
            return one, other, 1, units
    return one, other, 0, units


def case_ways(case, lots):
    """The ways by lots, which need not be few or suspects."""
    rows = case[0][1]
    found = found_about(case)
    return tuple([limited(way, rows, found, lots) for way in book_ways(case[0])])


def ways_of(case, lots):
    """The tuple of all ways (one, other, least, greatest) by lots, any value."""
    check_lots(case, lots)
    return case_ways(case, lots)


def has_point_form(thing):
    """Whether any value has the form of a point: True, which equals 1, is in none."""
    if not isinstance(thing, tuple) or not 2 <= len(thing) <= 3:
        return False
    return all([isinstance(word, str) for word in thing[:-1]]) and is_number(thing[-1])


def misplaced_point(book, things):
    """The first index of a tuple at which no point is, or none greater than the one before; or None."""
    points = {point: True for point in points_of(book)}
    for k, thing in enumerate(things):
        if not has_point_form(thing) or thing not in points:
            return k
        if k > 0 and thing <= things[k - 1]:
            return k
    return None


def check_points(case, points):
    """Raise NotUsable if any value is no set of points."""
    if not isinstance(points, tuple):
        raise NotUsable("points", -1)
    k = misplaced_point(case[0], points)
    if k is not None:
        raise NotUsable("points", k)


def set_sums(ways, points):
    """The four sums of a set of points."""
    inside = {point: True for point in points}
    leading_in = [way for way in ways if way[0] not in inside and way[1] in inside]
    leading_out = [way for way in ways if way[0] in inside and way[1] not in inside]
    can_come = sum([way[3] for way in leading_in])
    must_come = sum([way[2] for way in leading_in])
    can_go = sum([way[3] for way in leading_out])
    must_go = sum([way[2] for way in leading_out])
    return can_come, must_come, can_go, must_go


def sums_of(case, lots, points):
    """The tuple (can come in, must come in, can go out, must go out) of points, any value."""
    check_lots(case, lots)
    check_points(case, points)
    return set_sums(case_ways(case, lots), points)


def bars(sums):
    """Whether a set of points with these four sums is a barrier."""
    can_come, must_come, can_go, must_go = sums
    return must_go > can_come or must_come > can_go


def is_barrier(case, lots, points):
    """Whether points, any value, are a barrier for lots."""
    return bars(sums_of(case, lots, points))
