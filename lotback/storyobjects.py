"""Stories as objects that never change."""
from lotback.bookparts import check_place, check_row_count, check_row_index, sales_outside
from lotback.errors import NoStory
from lotback.explaining import story_by
from lotback.rowfacts import source_of, target_of
from lotback.stories import guilty_in, lets_story


class Story:
    """A possible story of a case."""

    def __init__(self, case, story):
        self._came = lets_story(case, story)
        self._book = case[0]
        self._story = story
        self._guilty = guilty_in(case[0][1], story)

    @classmethod
    def by(cls, case, lots):
        """Any Story by lots."""
        story = story_by(case, lots)
        if story is None:
            raise NoStory(lots)
        return Story(case, story)

    @property
    def story(self):
        """The story."""
        return self._story

    @property
    def guilty(self):
        """The set of the lots with bad units."""
        return self._guilty

    @property
    def came(self):
        """How many bad units came in."""
        return self._came

    def bad(self, t):
        """The bad units in parcel t."""
        check_row_index(self._book, t)
        return sum(self._story[t])

    def left(self, place, t):
        """The bad units in a place behind the first t rows."""
        check_place(self._book, place)
        check_row_count(self._book, t)
        rows = self._book[1][:t]
        given = [sum(self._story[k]) for k, row in enumerate(rows) if target_of(row) == place]
        taken = [sum(self._story[k]) for k, row in enumerate(rows) if source_of(row) == place]
        return sum(given) - sum(taken)

    def outside(self, *, wasted=True):
        """The bad units in the sales outside, and in what was thrown away if that is wasted."""
        gone = list(sales_outside(self._book))
        if wasted:
            gone.extend([t for t, row in enumerate(self._book[1]) if row[0] == "waste"])
        return sum([self.bad(t) for t in gone])

    def __iter__(self):
        return iter(self._story)

    def __len__(self):
        return len(self._story)

    def __eq__(self, other):
        return isinstance(other, Story) and self._story == other._story and self._book == other._book
