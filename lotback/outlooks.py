"""What looks at parcels can tell about some sales, and how many looks are needed.

What was told is a tuple with "bad", "clean" or None for each of the parcels.
"""
from lotback.cases import with_answers
from lotback.numberflows import least_story, story_above
from lotback.subsets import telling_sets
from lotback.worths import number_in

WORDS = ("bad", "clean")


def nothing_told(parcels):
    """What was told ahead of all looks."""
    return tuple([None for _ in parcels])


def answers_told(parcels, told):
    """The findings that were told about parcels, as a tuple."""
    return tuple([(word, t) for word, t in zip(told, parcels) if word is not None])


def all_answers(many):
    """The list of all tuples of so many answers."""
    answers = [()]
    for _ in range(many):
        answers = [(*told, word) for told in answers for word in WORDS]
    return answers


def stories_by_word(case, sales):
    """A dict of a story without a bad unit in the sales, under "clean", and of one with some, under "bad"."""
    sets = telling_sets(case)
    least = least_story(case, sales, sets)
    if least is None:
        return {}
    if number_in(least, sales) > 0:
        return {"bad": least}
    above = story_above(case, sales, sets, 0)
    if above is None:
        return {"clean": least}
    return {"clean": least, "bad": above}


def with_word(told, k, word):
    """What was told, with this word about parcel k."""
    return (*told[:k], word, *told[k + 1:])


def untold(told):
    """The indexes of the parcels about which nothing was told."""
    return [k for k, word in enumerate(told) if word is None]


class Outlook:
    """All that looks at these parcels can tell about the sales of a case."""

    def __init__(self, case, sales, parcels):
        self._stories = {}
        for told in all_answers(len(parcels)):
            self._stories[told] = stories_by_word(with_answers(case, answers_told(parcels, told)), sales)
        self._fewest = {}

    def witness(self, told, word):
        """A story with what was told, and with a bad unit in the sales, or without one; or None."""
        free = untold(told)
        if len(free) > 0:
            nearer = [self.witness(with_word(told, free[0], answer), word) for answer in WORDS]
            return nearer[1] if nearer[0] is None else nearer[0]
        return self._stories[told].get(word, None)

    def settled(self, told):
        """As what the case is settled, "clean" or "bad", or None; if it has no story, as both."""
        if self.witness(told, "bad") is None:
            return "clean"
        if self.witness(told, "clean") is None:
            return "bad"
        return None

    def fewest(self, told):
        """The fewest looks that settle the case; None if there are no such looks."""
        if told not in self._fewest:
            numbers = [self.fewest_by(told, k) for k in untold(told)]
            possible = [number for number in numbers if number is not None]
            self._fewest[told] = 0 if self.settled(told) is not None else min(possible, default=None)
        return self._fewest[told]

    def fewest_by(self, told, k):
        """The fewest looks, of which parcel k is the first; None if there are none."""
        behind = [self.fewest(with_word(told, k, word)) for word in WORDS]
        if any([number is None for number in behind]):
            return None
        return 1 + max(behind)

    def best_look(self, told):
        """The index of a parcel to look at first of looks that settle the case; None if none is needed."""
        fewest = self.fewest(told)
        if fewest == 0:
            return None
        return [k for k in untold(told) if self.fewest_by(told, k) == fewest][0]

    def longer_answer(self, told, k):
        """The answer to a look at parcel k behind which more looks are needed, or no looks are enough."""
        bad, clean = [self.fewest(with_word(told, k, word)) for word in WORDS]
        if clean is None or (bad is not None and clean > bad):
            return "clean"
        return "bad"
