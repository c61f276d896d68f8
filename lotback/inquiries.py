"""Inquiries, which go along the looks that settle a case."""
from lotback.askable import check_looks_asked
from lotback.cases import with_answers
from lotback.errors import NotUsable
from lotback.outlooks import WORDS, Outlook, nothing_told, with_word


class Inquiry:
    """One look after the other at parcels, until it is settled whether a bad unit is in some sales."""

    def __init__(self, case, sales, parcels):
        check_looks_asked(case, sales, parcels)
        outlook = Outlook(case, sales, parcels)
        nothing = nothing_told(parcels)
        if outlook.fewest(nothing) is None:
            raise NotUsable("looks", -1)
        self._case = case
        self._parcels = parcels
        self._outlook = outlook
        # What was told ahead of each answer, and behind all.
        self._course = (nothing,)
        self._answers = ()
        self._present = case

    @property
    def present(self):
        """The case with the answers."""
        return self._present

    def next_look(self):
        """A parcel to look at next, or None if the case is settled."""
        k = self._outlook.best_look(self._course[-1])
        return None if k is None else self._parcels[k]

    def outcome(self):
        """As what the case is settled, "clean" or "bad", or None."""
        return self._outlook.settled(self._course[-1])

    def needed(self):
        """The fewest looks that settle the present case."""
        return self._outlook.fewest(self._course[-1])

    def tell(self, word):
        """Take the answer to the next look, any value."""
        told = self._course[-1]
        k = self._outlook.best_look(told)
        if k is None or word not in WORDS:
            raise NotUsable("word", -1)
        self._course = (*self._course, with_word(told, k, word))
        self._answers = (*self._answers, (word, self._parcels[k]))
        self._present = with_answers(self._case, self._answers)

    def back(self):
        """Take the last answer back; tell whether there was one."""
        if len(self._answers) == 0:
            return False
        self._course = self._course[:-1]
        self._answers = self._answers[:-1]
        self._present = with_answers(self._case, self._answers)
        return True

    def __iter__(self):
        return iter(self._answers)

    def __len__(self):
        return len(self._answers)
