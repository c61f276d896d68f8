"""A live house: rows, findings and suspects that come one after the other, and what they tell."""
from lotback.backs import back_sets, fewest_back
from lotback.bookchecker import lets_book
from lotback.bookparts import sales_outside, units_in
from lotback.cases import case_with_row
from lotback.errors import InvalidEvent, InvalidPaper, NothingToUndo, NotUsable
from lotback.explaining import story_of
from lotback.guilt import can_be_bad, cleared, surely_bad
from lotback.houselines import event_line, slashed
from lotback.houseread import read_log
from lotback.houserules import case_behind, reason_against, reason_ahead, risk_of_sale
from lotback.housetables import table_of
from lotback.kinds import is_row
from lotback.looks import fewest_looks
from lotback.numbers import numbers_of
from lotback.orders import fills, safest


class House:
    """A house of these places; a careful one sells no unit that can be bad by what is known."""

    # How many events and how many rows it has at most.
    MOST = 40
    ROWS = 16

    def __init__(self, places, *, careful=False):
        lets_book((places, ()))
        if not isinstance(careful, bool):
            raise NotUsable("careful", -1)
        self._careful = careful
        self._started = 0
        self._finished = 0
        self._take(((("house", places, careful),), (((places, ()), (), (), 0),)))

    @classmethod
    def after(cls, log):
        """The House behind the events of a log, which are not counted."""
        _, places, careful = log[0]
        house = House(places, careful=careful)
        house._take(house._behind(log[1:]))
        return house

    @classmethod
    def read(cls, text):
        """The House that any string writes."""
        return House.after(read_log(text.split("\n")))

    def _take(self, course):
        """Be behind a course: the pair of a log, and of the cases ahead of each of its events and behind all."""
        self._course = course
        self._log = course[0]
        self._case = course[1][-1]
        self._rows = self._case[0][1]

    def _reason(self, course, event):
        """Why any value is not possible as an event behind a course, or None."""
        log, cases = course
        case = cases[-1]
        reason = reason_ahead(event, House.MOST - (len(log) - 1), House.ROWS - len(case[0][1]))
        return reason_against(case, event, self._careful) if reason is None else reason

    def _longer(self, course, event):
        """The course with one event more, any value."""
        reason = self._reason(course, event)
        if reason is not None:
            raise InvalidEvent(event, reason)
        log, cases = course
        return (*log, event), (*cases, case_behind(cases[-1], event))

    def _behind(self, events):
        """The course with these events more, any values."""
        course = self._course
        for event in events:
            course = self._longer(course, event)
        return course

    @property
    def case(self):
        """The case."""
        return self._case

    @property
    def careful(self):
        """Whether the house is careful."""
        return self._careful

    def __iter__(self):
        return iter(self._rows)

    def __len__(self):
        return len(self._rows)

    def __contains__(self, x):
        return x in self._case[2]

    def __eq__(self, other):
        return isinstance(other, House) and self._log == other._log

    def __str__(self):
        return str(slashed([event_line(event) for event in self._log[1:]]))

    def __call__(self, event):
        return self.go(event)

    def go(self, event):
        """Let an event, any value, happen; its answer."""
        self._started += 1
        finished = self._finished + 1
        try:
            self._take(self._longer(self._course, event))
            if is_row(event):
                return len(self._rows) - 1
            return surely_bad(self._case), can_be_bad(self._case)
        finally:
            self._finished = finished

    def come(self, place, lot, n):
        """Units of a lot come into a place."""
        return self.go(("come", place, lot, n))

    def move(self, one, other, n):
        """Units go from a place to another one."""
        return self.go(("move", one, other, n))

    def sell(self, place, n):
        """Units go out, to a customer."""
        return self.go(("sell", place, n))

    def waste(self, place, n):
        """Units are thrown away."""
        return self.go(("waste", place, n))

    def back(self, s, place):
        """All units of a sale come into a place."""
        return self.go(("back", s, place))

    def find(self, word, t):
        """A finding about parcel t."""
        return self.go(("find", word, t))

    def suspect(self, lot):
        """A lot is a suspect from now on."""
        return self.go(("suspect", lot))

    def clear(self, lot):
        """A lot is no suspect from now on."""
        return self.go(("clear", lot))

    def set_few(self, n):
        """At most so many lots hold bad units."""
        return self.go(("few", n))

    def barred(self, event):
        """Why any value is not possible as an event, or None."""
        return self._reason(self._course, event)

    def sure(self):
        """The set of the lots that are surely bad."""
        return surely_bad(self._case)

    def possible(self):
        """The set of the lots that can be bad."""
        return can_be_bad(self._case)

    def cleared(self):
        """The set of the lots that cannot be bad."""
        return cleared(self._case)

    def outside(self):
        """The set of the sales outside."""
        return sales_outside(self._case[0])

    def units(self, place):
        """How many units are in a place, any value."""
        return units_in(self._case[0], place, len(self._rows))

    def risk(self, place, n):
        """The greatest number of bad units that a sale would have as the next row."""
        row = ("sell", place, n)
        try:
            case_with_row(self._case, row)
        except InvalidPaper:
            raise NotUsable("row", -1) from None
        return risk_of_sale(self._case, row)

    def any_story(self):
        """Any possible story."""
        return story_of(self._case)

    def numbers(self, sales):
        """The set of the numbers of bad units that these sales can have."""
        return numbers_of(self._case, sales)

    def back_sets(self, left):
        """The ascending tuple of all sets of sales that are enough, called back, with the fewest units."""
        return back_sets(self._case, left)

    def fewest_back(self, left):
        """How many units have to be called back."""
        return fewest_back(self._case, left)

    def fewest_looks(self, sales, parcels):
        """The fewest looks that settle whether a bad unit is in these sales, or None."""
        return fewest_looks(self._case, sales, parcels)

    def fills(self, places, n):
        """Yield all fills of an order, ascending."""
        yield from fills(self._case, places, n)

    def safest(self, places, n):
        """The pair of the least worst number of fills, and of those that have it."""
        return safest(self._case, places, n)

    def do_all(self, *events, keep=False):
        """Let events, any values, happen; how many. Behind an error those ahead of it stay only if keep is True."""
        self._started += 1
        finished = self._finished + 1
        try:
            if keep is True:
                for event in events:
                    self._take(self._longer(self._course, event))
            else:
                self._take(self._behind(events))
            return len(events)
        finally:
            self._finished = finished

    def tried(self, *events):
        """The case behind events, any values; the House stays as it is."""
        _, cases = self._behind(events)
        return cases[-1]

    def undo(self):
        """Take the last event back; tell it."""
        self._started += 1
        finished = self._finished + 1
        try:
            log, cases = self._course
            if len(log) == 1:
                raise NothingToUndo(0)
            self._take((log[:-1], cases[:-1]))
            return log[-1]
        finally:
            self._finished = finished

    def log(self):
        """The tuple of ("house", places, careful) and of the events."""
        return self._log

    def counts(self):
        """How many operations were started, and how many finished."""
        return self._started, self._finished

    def table(self):
        """A list with a string for each parcel."""
        return table_of(self._case)
