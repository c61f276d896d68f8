"""A slow model, written from the definitions alone, unit by unit; and random cases."""
import itertools
import random


class Units:
    """Every unit on its own: a heap is a number of units, a pipe a list of the parcels they came with."""

    def __init__(self, places):
        self.kinds = dict(places)
        self.there = {place: [] for place in self.kinds}
        self.many = []
        self.parts = []
        self.states = []
        self.rows = []
        self.note()

    def note(self):
        self.states.append({place: list(units) for place, units in self.there.items()})

    def do(self, row):
        t = len(self.rows)
        word = row[0]
        if word == "come":
            parts, many, goal = ((None, row[3]),), row[3], row[1]
        elif word == "back":
            many, goal = self.many[row[1]], row[2]
            parts = ((row[1], many),)
        else:
            many, goal = row[-1], row[2] if word == "move" else None
            taken = [self.there[row[1]].pop(0) for _ in range(many)]
            parts = tuple((s, len(list(group))) for s, group in itertools.groupby(taken))
        if goal is not None:
            self.there[goal].extend([t if self.kinds[goal] == "pipe" else None] * many)
        self.rows.append(row)
        self.many.append(many)
        self.parts.append(parts)
        self.note()


def units_of_book(book):
    """The Units behind all rows."""
    units = Units(book[0])
    for row in book[1]:
        units.do(row)
    return units


def ways_to_take(pile, n):
    """The pairs (bad, pile left) of taking n out of (good, bad)."""
    good, bad = pile
    return [(b, (good - (n - b), bad - b)) for b in range(n + 1) if b <= bad and n - b <= good]


def model_stories(case):
    """All possible stories of a case, as a set, by moving good and bad units."""
    (places, rows), findings, suspects, few = case
    kinds = dict(places)
    found = {t: word for word, t in findings}
    start = {place: ((None, (0, 0)),) if kind == "heap" else () for place, kind in places}
    states = [((), start, frozenset())]
    for t, row in enumerate(rows):
        states = [new for state in states for new in model_steps(kinds, rows, t, state, suspects)]
        states = [state for state in states if holds(found.get(t), sum(state[0][t]))]
        states = [state for state in states if len(state[2]) <= few]
    return {story for story, _, _ in states}


def holds(word, bad):
    return word is None or (bad > 0) == (word == "bad")


def model_steps(kinds, rows, t, state, suspects):
    story, there, guilty = state
    row = rows[t]
    if row[0] == "come":
        most = row[3] if row[2] in suspects else 0
        for bad in range(most + 1):
            blamed = guilty | {row[2]} if bad else guilty
            yield (*story, (bad,)), put(kinds, there, row[1], t, row[3] - bad, bad), blamed
    elif row[0] == "back":
        bad = sum(story[row[1]])
        yield (*story, (bad,)), put(kinds, there, row[2], t, rows[row[1]][2] - bad, bad), guilty
    else:
        for numbers, queue in takings(there[row[1]], row[-1]):
            after = dict(there)
            after[row[1]] = queue
            if row[0] == "move":
                after = put(kinds, after, row[2], t, row[3] - sum(numbers), sum(numbers))
            yield (*story, numbers), after, guilty


def put(kinds, there, place, t, good, bad):
    after = dict(there)
    if kinds[place] == "heap":
        _, (had_good, had_bad) = there[place][0]
        after[place] = ((None, (had_good + good, had_bad + bad)),)
    else:
        after[place] = (*there[place], (t, (good, bad)))
    return after


def takings(queue, n):
    """The pairs (numbers of bad units, queue left) of taking n from the front."""
    if n == 0:
        yield (), queue
        return
    s, pile = queue[0]
    m = min(n, sum(pile))
    for bad, left in ways_to_take(pile, m):
        rest = queue[1:]
        if sum(left) > 0 or s is None:
            rest = ((s, left), *rest)
        for numbers, after in takings(rest, n - m) if n > m else [((), rest)]:
            yield (bad, *numbers), after


def all_tuples(book, beyond=0):
    """Every story-like tuple, with numbers up to so many more than a part has units."""
    rows = [list(itertools.product(*[range(m + 1 + beyond) for _, m in parts]))
            for parts in units_of_book(book).parts]
    return itertools.product(*rows)


PLACES = [("keg", "heap"), ("line", "pipe"), ("rack", "pipe"), ("tank", "heap")]
LOTS = ["ash", "birch", "cedar", "dogwood", "elm"]


def random_book(seed, rows, most=3, places=None):
    """Any book with so many rows of at most so many units."""
    dice = random.Random(seed)
    if places is None:
        places = dice.sample(PLACES, dice.randint(1, 4))
    units = Units(tuple(sorted(places)))
    names = sorted(units.kinds)
    while len(units.rows) < rows:
        row = random_row(dice, units, names, most)
        if row is not None:
            units.do(row)
    return tuple(sorted(places)), tuple(units.rows)


def random_row(dice, units, names, most):
    word = dice.choice(["come", "come", "move", "move", "move", "sell", "sell", "waste", "back"])
    if word == "come":
        return (word, dice.choice(names), dice.choice(LOTS), dice.randint(1, most))
    if word == "back":
        back = [row[1] for row in units.rows if row[0] == "back"]
        sales = [t for t, row in enumerate(units.rows) if row[0] == "sell" and t not in back]
        return (word, dice.choice(sales), dice.choice(names)) if sales else None
    one = dice.choice(names)
    high = min(most, len(units.there[one]))
    if high == 0:
        return None
    n = dice.randint(1, high)
    if word != "move":
        return (word, one, n)
    others = [name for name in names if name != one]
    return (word, one, dice.choice(others), n) if others else None


def random_case(seed, rows, most=3, places=None, findings=3):
    """Any case of any such book."""
    dice = random.Random(seed * 7 + 1)
    book = random_book(seed, rows, most, places)
    about = dice.sample(range(len(book[1])), min(dice.randint(0, findings), len(book[1])))
    found = tuple(sorted((dice.choice(["bad", "bad", "clean"]), t) for t in about))
    suspects = tuple(sorted(dice.sample(LOTS, dice.randint(0, 5))))
    return book, found, suspects, dice.randint(0, 3)


def lot_sets(case):
    """All sets of at most few suspects."""
    _, _, suspects, few = case
    return [lots for k in range(few + 1) for lots in itertools.combinations(suspects, k)]


def guilty_by_model(book, story):
    """The set of the lots with bad units in a story."""
    return {row[2] for row, numbers in zip(book[1], story) if row[0] == "come" and sum(numbers) > 0}


def stories_by(case, stories, lots):
    """Those of all stories whose guilty are among lots."""
    return [story for story in stories if guilty_by_model(case[0], story) <= set(lots)]


def number_by_model(story, sales):
    return sum(sum(story[t]) for t in sales)


def sales_by_model(book):
    """The sales that did not come back."""
    back = [row[1] for row in book[1] if row[0] == "back"]
    return tuple(t for t, row in enumerate(book[1]) if row[0] == "sell" and t not in back)


def subsets(things):
    """All sets of things, ascending."""
    return sorted(some for k in range(len(things) + 1) for some in itertools.combinations(things, k))


def broad_by_model(case):
    _, _, suspects, few = case
    return list(itertools.combinations(suspects, min(few, len(suspects))))


def bad_in(story, sales):
    """Whether a story has a bad unit in some of these rows."""
    return any(sum(story[t]) > 0 for t in sales)


def settled_by_model(stories, sales):
    """As what these stories are settled; "both" if there is none."""
    told = {bad_in(story, sales) for story in stories}
    return {(): "both", (True,): "bad", (False,): "clean"}.get(tuple(told))


def answered(stories, word, t):
    """Those stories by which a look at a parcel is answered so."""
    return [story for story in stories if bad_in(story, (t,)) == (word == "bad")]


def fewest_by_model(stories, sales, parcels):
    """The fewest looks, by going through all orders of looks; None if there are none."""
    if settled_by_model(stories, sales) is not None:
        return 0
    fewest = None
    for t in parcels:
        others = tuple(other for other in parcels if other != t)
        behind = [fewest_by_model(answered(stories, word, t), sales, others) for word in ("bad", "clean")]
        if None not in behind and (fewest is None or max(behind) + 1 < fewest):
            fewest = max(behind) + 1
    return fewest


def free_rows(case):
    """The rows about which there is no finding."""
    found = [t for _, t in case[1]]
    return [t for t in range(len(case[0][1])) if t not in found]


def row_is_possible(book, row):
    """Whether a row by form makes a book with this one behind it."""
    places, rows = book
    names = [place for place, _ in places]
    units = units_of_book(book)
    if row[0] == "come":
        return row[1] in names
    if row[0] == "back":
        return row[1] in sales_by_model(book) and row[2] in names
    if row[0] == "move" and (row[1] == row[2] or row[2] not in names):
        return False
    return row[1] in names and row[-1] <= len(units.there[row[1]])


def after_by_model(case, event):
    """The case behind an event that is possible."""
    (places, rows), findings, suspects, few = case
    if event[0] == "find":
        findings = tuple(sorted((*findings, event[1:])))
    elif event[0] == "suspect":
        suspects = tuple(sorted((*suspects, event[1])))
    elif event[0] == "clear":
        suspects = tuple(lot for lot in suspects if lot != event[1])
    elif event[0] == "few":
        few = event[1]
    else:
        rows = (*rows, event)
    return (places, rows), findings, suspects, few


ROW_WORDS = ("come", "move", "sell", "waste", "back")


def reason_by_model(case, careful, many, event):
    """Why an event by kind is not possible behind so many events, by all stories; or None."""
    book, findings, suspects, few = case
    after = after_by_model(case, event)
    if many >= 40:
        return "full"
    if event[0] in ROW_WORDS:
        if len(book[1]) >= 16:
            return "long"
        if not row_is_possible(book, event):
            return "row"
        sold = event[0] == "sell" and careful
        return "bad" if sold and any(sum(story[-1]) > 0 for story in model_stories(after)) else None
    if event[0] == "find" and event[2] >= len(book[1]):
        return "row"
    if event[0] == "find" and event[2] in [t for _, t in findings] or event[0] == "suspect" and event[1] in suspects:
        return "there"
    if event[0] == "clear" and event[1] not in suspects:
        return "missing"
    if event[0] == "few" and event[1] == few:
        return "same"
    return None if model_stories(after) else "story"


def sure_and_possible(case):
    """The lots that are surely bad, and those that can be bad, by all stories."""
    guilty = [guilty_by_model(case[0], story) for story in model_stories(case)]
    return tuple(sorted(set.intersection(*guilty))), tuple(sorted(set.union(*guilty)))


def random_event(dice, case, most=2):
    """Any event by kind, mostly a possible one."""
    (places, rows), _, suspects, _ = case
    names = [place for place, _ in places]
    word = dice.choice(["come", "come", "move", "sell", "sell", "waste", "back", "find", "find", "find", "suspect", "suspect", "clear", "few"])
    place = dice.choice(names if dice.random() < 0.95 else ["shed"])
    n = dice.randint(1, most)
    if word in ("suspect", "clear"):
        return (word, dice.choice(suspects if suspects and word == "clear" and dice.random() < 0.8 else LOTS))
    return {"come": (word, place, dice.choice(LOTS), n), "move": (word, place, dice.choice(names), n), "sell": (word, place, n), "waste": (word, place, n),
            "back": (word, dice.randint(0, len(rows)), place), "find": (word, dice.choice(["bad", "bad", "clean"]), dice.randint(0, len(rows))),
            "few": (word, dice.randint(0, 3))}[word]
