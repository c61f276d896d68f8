"""[1], [2], [8], [9] for the whole program: what nothing else may change, and that no other error is raised."""
import copy
import importlib
import inspect
import random

from lotback.backs import back_sets, fewest_back
from lotback.bookobjects import Book, Case
from lotback.disputes import least_clashes
from lotback.errors import (InvalidEvent, InvalidPaper, InvalidRow, InvalidText, LotError, NoStory, NothingToUndo, NotUsable,
                            UnknownLot)
from lotback.explaining import is_explained
from lotback.guilt import can_be_bad, guilty_sets, least_guilty, surely_bad
from lotback.houses import House
from lotback.inquiries import Inquiry
from lotback.looks import fewest_looks, settled_as
from lotback.numbers import numbers_of
from lotback.orders import safest
from lotback.shields import worst_number
from tests.common import BARRED, BOOK, CASE, MANY, ODD, PURE, ROWS, Exact
from tests.model import LOTS, free_rows, random_case, sales_by_model, subsets
from tests.test_houses import EVENTS, PLACES, example
from tests.test_interface import FUNCTIONS

NAMES = {"keg": "yard", "line": "bin", "rack": "zinc", "tank": "attic", "ash": "yew", "birch": "oak", "cedar": "fir", "dogwood": "asp", "elm": "zelkova"}


def renamed(thing):
    """The same with other names, by a map that does not keep their order."""
    if isinstance(thing, str):
        return NAMES.get(thing, thing)
    if isinstance(thing, tuple):
        return tuple(renamed(part) for part in thing)
    return thing


def renamed_case(case):
    (places, rows), findings, suspects, few = case
    return (tuple(sorted(renamed(places))), renamed(rows)), findings, tuple(sorted(renamed(suspects))), few


def facts_of(case):
    """What a case tells, without names of lots and places: sets are ascending tuples of names."""
    if not is_explained(case):
        return (None, least_clashes(case))
    sales = sales_by_model(case[0])[:5]
    parcels = tuple(t for t in free_rows(case))[:3]
    return (guilty_sets(case), least_guilty(case), surely_bad(case), can_be_bad(case), [numbers_of(case, some) for some in subsets(sales)],
            [back_sets(case, left) for left in range(4)], [fewest_looks(case, some, parcels) for some in subsets(sales[:3])])


def renamed_facts(told):
    if told[0] is None:
        return told
    sets = [tuple(sorted(tuple(sorted(renamed(lots))) for lots in some)) for some in told[:2]]
    return (*sets, *[tuple(sorted(renamed(lots))) for lots in told[2:4]], *told[4:])


def places_in(row):
    return {word for word in row[1:] if word in ("keg", "line", "rack", "tank")}


def have_nothing_to_do(rows, t):
    """Whether rows t and t + 1 have different places, and the second one brings nothing back that the first one sold."""
    one, other = rows[t], rows[t + 1]
    return not places_in(one) & places_in(other) and not (other[0] == "back" and other[1] == t)


def exchanged(case, t):
    """The case with rows t and t + 1 exchanged, and how the indexes of rows change."""
    (places, rows), findings, suspects, few = case
    index = {**{k: k for k in range(len(rows))}, t: t + 1, t + 1: t}

    def told_again(row):
        return (row[0], index[row[1]], row[2]) if row[0] == "back" else row
    moved = [told_again(rows[index[k]]) for k in range(len(rows))]
    found = tuple(sorted((word, index[row]) for word, row in findings))
    return ((places, tuple(moved)), found, suspects, few), index


class Unchanged(Exact):
    def test_renamed(self):
        """With other places and lots all is the same, but for their names."""
        for seed in range(40):
            case = random_case(seed, 10, 4, findings=3)
            case = (*case[:2], tuple(LOTS), 1 + seed % 3)
            self.exactly(facts_of(renamed_case(case)), renamed_facts(facts_of(case)))

    def test_renamed_orders(self):
        for seed in range(20):
            case = random_case(seed, 8, 3, findings=2)
            names = tuple(place for place, _ in case[0][0])
            there = House(case[0][0])
            there.do_all(*case[0][1])
            units = sum(there.units(place) for place in names)
            if is_explained(case) and units:
                other = tuple(sorted(renamed(names)))
                order = [other.index(renamed(name)) for name in names]
                worst, filled = safest(case, names, min(3, units))
                again, told = safest(renamed_case(case), other, min(3, units))
                self.exactly((again, sorted(tuple(fill[k] for k in order) for fill in told)), (worst, sorted(filled)))

    def test_rows_exchanged(self):
        """Rows that have nothing to do with each other, exchanged."""
        tried = 0
        for seed in range(60):
            case = random_case(seed, 10, 4, findings=3)
            case = (*case[:2], tuple(LOTS), 1 + seed % 3)
            rows = case[0][1]
            for t in [t for t in range(len(rows) - 1) if have_nothing_to_do(rows, t)][:3]:
                other, index = exchanged(case, t)
                tried += 1
                self.exactly(is_explained(other), is_explained(case))
                if is_explained(case):
                    self.same_told(case, other, index)
        self.assertGreater(tried, 60)

    def same_told(self, case, other, index):
        def moved(some):
            return tuple(sorted(index[t] for t in some))
        self.exactly((guilty_sets(other), surely_bad(other), can_be_bad(other)), (guilty_sets(case), surely_bad(case), can_be_bad(case)))
        sales = sales_by_model(case[0])[:4]
        for some in subsets(sales):
            self.exactly((numbers_of(other, moved(some)), settled_as(other, moved(some))), (numbers_of(case, some), settled_as(case, some)))
        for left in range(3):
            self.exactly(back_sets(other, left), tuple(sorted(moved(some) for some in back_sets(case, left))))
            self.exactly(fewest_back(other, left), fewest_back(case, left))
        parcels = tuple(free_rows(case))[:3]
        self.exactly(fewest_looks(other, moved(sales[:2]), moved(parcels)), fewest_looks(case, sales[:2], parcels))

    def test_houses_with_rows_exchanged(self):
        one, other = House(PLACES), House(PLACES)
        rows = [("come", "tank", "ash", 3), ("come", "line", "birch", 3), ("sell", "tank", 1), ("sell", "line", 2)]
        one.do_all(*rows, ("suspect", "ash"), ("few", 1), ("find", "bad", 2))
        other.do_all(rows[1], rows[0], rows[3], rows[2], ("suspect", "ash"), ("few", 1), ("find", "bad", 3))
        self.exactly((one.sure(), one.possible(), one.cleared(), one.units("tank"), one.risk("line", 1), one.safest(("line", "tank"), 2)),
                     (other.sure(), other.possible(), other.cleared(), other.units("tank"), other.risk("line", 1), other.safest(("line", "tank"), 2)))
        self.exactly([one.numbers((2,)), one.numbers((3,))], [other.numbers((3,)), other.numbers((2,))])

    def test_more_suspects_findings_and_sales(self):
        """[43], [27]: greatest numbers of more sales and of more suspects."""
        for seed in range(30):
            case = random_case(seed, 10, 4, findings=3)
            case = (*case[:2], tuple(LOTS[:3]), 2)
            more = (*case[:2], tuple(LOTS), 2)
            if is_explained(case):
                sales = sales_by_model(case[0])[:4]
                for some in subsets(sales):
                    worst = worst_number(case, some)
                    self.assertLessEqual(worst, worst_number(more, some))
                    self.assertLessEqual(worst, sum(worst_number(case, (t,)) for t in some))


# The parameters that may be any values, of each function; the others are of the kinds that are listed.
ANY = {"thing", "row", "finding", "suspects", "few", "s", "t", "place", "lot", "lots", "points", "number", "sales", "left", "parcels", "places", "units", "fill"}
USUAL = {"book": BOOK, "case": CASE, "thing": CASE, "row": ROWS[0], "finding": ("clean", 3), "suspects": ("ash",), "few": 1, "s": 0, "t": 3, "place": "tank",
         "lot": "ash", "lots": ("ash",), "points": (), "number": 1, "sales": (3,), "left": 1, "parcels": (2, 3), "places": ("tank",), "units": 1, "fill": (1,),
         "story": ((1,), (0,), (1,), (0,), (0,), (1, 0)), "word": "least", "event": EVENTS[0], "log": (("house", PLACES, False),)}
# Functions whose parameters of these names are no any values: of the written forms.
LISTED = {"row_text": {"row"}, "finding_text": {"finding"}, "book_text": set(), "case_text": set(), "house_line": {"places"}, "row_read": set()}


class Errors(Exact):
    def objects(self):
        return [Book.of(BOOK), Case.of(CASE), House(PLACES), Inquiry(CASE, (3,), (3,)), NotUsable("a", 1), LotError]

    def call(self, function, told):
        """The call raises nothing but an error of the package, and changes no argument."""
        kept = {name: copy.deepcopy(thing) for name, thing in told.items() if " object at " not in repr(thing)}
        try:
            got = function(**told)
            if inspect.isgenerator(got):
                list(got)
        except LotError as caught:
            self.assertIn(type(caught), (InvalidPaper, NotUsable, UnknownLot, NoStory, InvalidText))
            self.assertEqual(type(caught).__mro__[2:4], (LotError, ValueError))
        for name, thing in kept.items():
            self.exactly(told[name], thing)

    def test_no_other_error(self):
        """Values of all kinds for each parameter that may be any value."""
        for name, functions in FUNCTIONS.items():
            module = importlib.import_module("lotback." + name)
            for text in functions:
                function = getattr(module, text.split("(")[0])
                names = [part for part in inspect.signature(function).parameters if part in USUAL]
                odd_names = [part for part in names if part in ANY - LISTED.get(function.__name__, set())]
                if len(names) == len(inspect.signature(function).parameters):
                    for part in odd_names:
                        for odd in [*ODD, (), (0,), ("ash",), (3,), 0, 10 ** 60, *self.objects()]:
                            self.call(function, {**{other: USUAL[other] for other in names}, part: odd})
                        self.call(function, {**{other: None for other in odd_names}, **{other: USUAL[other] for other in names if other not in odd_names}})

    def test_fields(self):
        """Each error of the package, with its fields, as it is raised."""
        empty = House(PLACES)
        for error, call in [(InvalidPaper("shape", -1), lambda: House(None)), (NotUsable("left", -1), lambda: back_sets(CASE, None)),
                            (UnknownLot(["ash"]), lambda: importlib.import_module("lotback.bookparts").came(BOOK, ["ash"])), (NoStory(()), lambda: settled_as(BARRED, ())),
                            (InvalidEvent([1], "shape"), lambda: empty.go([1])), (NothingToUndo(0), empty.undo),
                            (InvalidText(0, 0), lambda: House.read("x")), (InvalidRow("x"), lambda: importlib.import_module("lotback.desk").Desk().say("x"))]:
            self.raising(error, call)
            with self.assertRaises(ValueError):
                call()

    def test_objects_as_parameters_of_a_house(self):
        house = example()
        for thing in [*self.objects(), *ODD]:
            self.exactly(thing in house, False)
            self.exactly(house.barred(thing), "shape")
            for call in (house.numbers, house.back_sets, house.fewest_back, house.units):
                try:
                    call(thing)
                except LotError as caught:
                    self.assertIsInstance(caught, NotUsable)
            for call in (house.risk, house.safest, house.fewest_looks):
                for told in [(thing, thing), (("tank",), thing), (thing, 1), ((), thing)]:
                    try:
                        call(*told)
                    except LotError as caught:
                        self.assertIsInstance(caught, NotUsable)

    def test_exactly_integers(self):
        """True is no 1, anywhere: as a sale, a parcel, units, left."""
        case = (((("tank", "heap"),), (("come", "tank", "ash", 3), ("sell", "tank", 1))), (), ("ash",), 1)
        self.raising(NotUsable("sales", 0), settled_as, case, (True,))
        self.raising(NotUsable("parcels", 0), fewest_looks, case, (1,), (False,))
        self.raising(NotUsable("parcels", 1), fewest_looks, case, (1,), (0, True))
        self.raising(NotUsable("left", -1), back_sets, case, True)
        self.raising(NotUsable("units", -1), safest, case, ("tank",), True)

    def test_results_are_new_and_of_their_kind(self):
        """Tuples of integers and strings, no bools, and lists only where they are stated."""
        house = example()
        for told in [house.case, house.log(), house.outside(), house.sure(), house.numbers((3, 5)), house.back_sets(1), house.safest(("tank",), 1),
                     house.any_story(), house.counts(), house.go(("suspect", "elm"))]:
            self.plain(told)
        self.assertIsInstance(house.table(), list)
        self.exactly([type(house.careful), type(house.fewest_back(0)), type(house.risk("tank", 1)), type(house.barred(None))], [bool, int, int, str])

    def plain(self, thing):
        if isinstance(thing, tuple):
            for part in thing:
                self.plain(part)
        else:
            self.assertIn(type(thing), (int, str) if thing is not False else (bool,))

    def test_a_course_by_chance(self):
        """The same calls give the same results."""
        def run():
            dice = random.Random(3)
            told = []
            for seed in range(4):
                case = random_case(seed, 9, 3)
                if is_explained(case):
                    told.append((facts_of(case), dice.random()))
            return told
        self.exactly(run(), run())
        self.exactly((MANY[3], PURE[3]), (2, 1))
