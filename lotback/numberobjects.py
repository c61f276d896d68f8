"""The numbers of some sales as an object that never changes."""
from lotback.errors import NotUsable
from lotback.kinds import is_number
from lotback.numberflows import numbers_by, story_by_some
from lotback.subsets import telling_sets
from lotback.usable import check_lots, check_sales


class Numbers:
    """The numbers that the stories of a case have for some sales; or only those by lots."""

    def __init__(self, case, sales, *, lots=None):
        if lots is not None:
            check_lots(case, lots)
        check_sales(case, sales)
        self._case = case
        self._sales = sales
        self._sets = telling_sets(case) if lots is None else [lots]
        self._numbers = numbers_by(case, sales, self._sets)

    @property
    def least(self):
        """The least number, or None."""
        return self._numbers[0] if len(self._numbers) > 0 else None

    @property
    def greatest(self):
        """The greatest number, or None."""
        return self._numbers[-1] if len(self._numbers) > 0 else None

    def with_number(self, number):
        """Any possible story with this number, any value."""
        if number not in self:
            raise NotUsable("number", number)
        return story_by_some(self._case, self._sales, self._sets, number)

    def __iter__(self):
        return iter(self._numbers)

    def __len__(self):
        return len(self._numbers)

    def __contains__(self, x):
        return is_number(x) and x in self._numbers

    def __eq__(self, other):
        return isinstance(other, Numbers) and self._numbers == other._numbers
