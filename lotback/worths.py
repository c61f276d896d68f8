"""The worth of covers and floors, and the number of a story."""
from lotback.points import set_sums


def number_in(story, sales):
    """How many bad units a story has in these sales."""
    return sum([sum(story[t]) for t in sales])


def bad_sales(story, sales):
    """Those of these sales in which a story has a bad unit."""
    return tuple([t for t in sales if sum(story[t]) > 0])


def leads_out_of(way, sales):
    """Whether a way leads from one of these sales to outside."""
    one, other, _, _ = way
    return other is None and one[0] == "out" and one[1] in sales


def cover_sum(ways, points):
    """What can come into these points less what must go out."""
    can_come, _, _, must_go = set_sums(ways, points)
    return can_come - must_go


def floor_sum(ways, sales, points):
    """What must come into these points less what can go out, but for what these sales let out."""
    others = [way for way in ways if not leads_out_of(way, sales)]
    _, must_come, can_go, _ = set_sums(others, points)
    return must_come - can_go
