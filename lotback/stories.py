"""The checker of stories, and all stories of a case."""
from lotback.errors import InvalidPaper
from lotback.kinds import are_numbers
from lotback.points import found_about
from lotback.tracks import tracks_of


def has_story_form(thing):
    """Whether any value is a tuple of tuples of numbers."""
    return isinstance(thing, tuple) and all([are_numbers(numbers) for numbers in thing])


def check_part(track, told, bad, i, number):
    """Raise InvalidPaper if part i of a row cannot have so many bad units.

    told has the numbers of all rows ahead, bad the bad units at (place, parcel).
    """
    s, m = track.parts[i]
    if number > m:
        raise InvalidPaper("part", (track.t, i))
    if track.row[0] == "back" and number != sum(told[s]):
        raise InvalidPaper("same", (track.t, i))
    if track.source is not None:
        left = bad[(track.source, s)] - number
        if not 0 <= left <= track.left_of(s):
            raise InvalidPaper("rest", (track.t, i))


def fits_finding(found, t, number):
    """Whether what was found about parcel t lets it have so many bad units."""
    word = found.get(t, None)
    return word is None or (word == "bad") == (number > 0)


def may_hold(case, row, number):
    """Whether a row may bring so many bad units, as only suspects do."""
    return number == 0 or row[0] != "come" or row[2] in case[2]


def check_row_numbers(case, found, track, told, bad):
    """Raise InvalidPaper if the numbers told of a row are not possible behind those ahead."""
    t = track.t
    numbers = told[t]
    if len(numbers) != len(track.parts):
        raise InvalidPaper("parts", t)
    for i, number in enumerate(numbers):
        check_part(track, told, bad, i, number)
    if not may_hold(case, track.row, sum(numbers)):
        raise InvalidPaper("lot", t)
    if not fits_finding(found, t, sum(numbers)):
        raise InvalidPaper("finding", t)


def bad_behind(track, bad, numbers):
    """The bad units at (place, parcel) behind a row, by those ahead of it."""
    changed = {key: bad[key] for key in bad}
    if track.source is not None:
        for i, part in enumerate(track.parts):
            changed[(track.source, part[0])] -= numbers[i]
    if track.target is not None:
        key = (track.target, None if track.gives_to_heap() else track.t)
        changed[key] = changed.get(key, 0) + sum(numbers)
    return changed


def guilty_in(rows, story):
    """The set of the lots with bad units in a story, or in the beginning of one."""
    came_bad = [t for t, numbers in enumerate(story) if rows[t][0] == "come" and sum(numbers) > 0]
    return tuple(sorted(set([rows[t][2] for t in came_bad])))


def lets_story(case, thing):
    """How many bad units come in, if any value is a possible story."""
    rows = case[0][1]
    if not has_story_form(thing):
        raise InvalidPaper("shape", -1)
    if len(thing) != len(rows):
        raise InvalidPaper("many", -1)
    found = found_about(case)
    bad = {}
    for track in tracks_of(case[0]):
        check_row_numbers(case, found, track, thing, bad)
        bad = bad_behind(track, bad, thing[track.t])
    if len(guilty_in(rows, thing)) > case[3]:
        raise InvalidPaper("few", -1)
    return sum([sum(numbers) for t, numbers in enumerate(thing) if rows[t][0] == "come"])


def is_story(case, thing):
    """Whether any value is a possible story."""
    try:
        lets_story(case, thing)
    except InvalidPaper:
        return False
    return True


def guilty_of(case, story):
    """The guilty of a possible story."""
    lets_story(case, story)
    return guilty_in(case[0][1], story)


def part_bounds(case, track, told, bad, i):
    """The least and the greatest number that part i of a row can have behind those told."""
    s, m = track.parts[i]
    if track.row[0] == "come":
        return 0, m if track.row[2] in case[2] else 0
    if track.row[0] == "back":
        return sum(told[s]), sum(told[s])
    there = bad[(track.source, s)]
    return max(0, there - track.left_of(s)), min(m, there)


def numbers_between(bounds):
    """All tuples with a number between each of these pairs of bounds, ascending."""
    tuples = [()]
    for low, high in bounds:
        tuples = [(*numbers, k) for numbers in tuples for k in range(low, high + 1)]
    return tuples


def goings_on(case, found, track, told, bad):
    """The pairs (numbers of all rows, bad units) of one row more, ascending."""
    bounds = [part_bounds(case, track, told, bad, i) for i in range(len(track.parts))]
    pairs = []
    for numbers in numbers_between(bounds):
        longer = (*told, numbers)
        if fits_finding(found, track.t, sum(numbers)) and len(guilty_in(case[0][1], longer)) <= case[3]:
            pairs.append((longer, bad_behind(track, bad, numbers)))
    return pairs


def all_stories(case):
    """Yield all possible stories, ascending."""
    tracks = tracks_of(case[0])
    found = found_about(case)
    waiting = [((), {})]
    while len(waiting) > 0:
        told, bad = waiting.pop()
        if len(told) == len(tracks):
            yield told
        else:
            # The last one waiting comes first.
            waiting.extend(goings_on(case, found, tracks[len(told)], told, bad)[::-1])
