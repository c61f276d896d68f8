"""[60] to [64], [8] (B8): houses, their events, trials, counts, equality and advice."""
import copy
import random

from lotback.backs import back_sets, fewest_back
from lotback.bookobjects import Book
from lotback.casechecker import lets_case
from lotback.errors import InvalidEvent, InvalidPaper, LotError, NothingToUndo, NotUsable
from lotback.explaining import is_explained
from lotback.guilt import can_be_bad, cleared, surely_bad
from lotback.houseevents import is_event
from lotback.houses import House
from lotback.looks import fewest_looks
from lotback.numbers import numbers_of
from lotback.orders import fills, safest
from lotback.stories import is_story
from tests.common import BOOK, CASE, ODD, ROWS, Exact, nested
from tests.model import (LOTS, after_by_model, guilty_by_model, model_stories, number_by_model, random_event, reason_by_model,
                         row_is_possible, sales_by_model, sure_and_possible, units_of_book)

PLACES = BOOK[0]
EVENTS = (*ROWS, ("suspect", "ash"), ("suspect", "cedar"), ("few", 1), ("find", "bad", 5))
TANK = (("tank", "heap"),)
FORMS = [("come", "tank", "ash", 1), ("move", "tank", "line", 1), ("sell", "tank", 1), ("waste", "tank", 1), ("back", 0, "tank"),
         ("find", "bad", 0), ("find", "clean", 10 ** 59), ("suspect", "ash"), ("clear", "elm"), ("few", 0), ("few", 10 ** 60)]


def example(careful=False):
    house = House(PLACES, careful=careful)
    house.do_all(*EVENTS)
    return house


def facts(house):
    """All that a house tells without questions about anything."""
    return (house.case, house.careful, list(house), len(house), house.log(), str(house), house.outside(), house.sure(), house.possible(),
            house.cleared(), house.table(), [house.units(place) for place, _ in house.case[0][0]])


def wrong_shapes():
    """Values that are no events by kind."""
    yield from [*ODD, None, (), [], 0, "few 1", ("few",), ("few", 1, 1), ("few", -1), ("few", True), ("few", "1"), ["few", 1], ("few", (1,)), (("few", 1),),
                ("find",), ("find", "bad"), ("find", "worse", 0), ("find", "bad", -1), ("find", "bad", True), ("find", ("bad", 0)), ("find", "bad", 0, 0),
                ("find", ["bad"], 0), ("find", None, 0), ("bad", 0), ("suspect",), ("suspect", "Ash"), ("suspect", ""), ("suspect", "abcdefghi"),
                ("suspect", "ash", "elm"), ("suspect", ("ash",)), ("suspect", 1), ("clear", None), ("clear", "a b"), ("clear",), ("Clear", "ash"),
                ("come", "tank", "ash"), ("come", "tank", "ash", 0), ("come", "tank", "ash", True), ("come", "Tank", "ash", 1), ("come", "tank", "", 1),
                ("come", "tank", "ash", 1, 1), ["come", "tank", "ash", 1], ("sell", "tank", 0), ("sell", "tank"), ("waste", "tank", -1), ("move", "tank", 1),
                ("move", "tank", "line", "1"), ("back", -1, "tank"), ("back", True, "tank"), ("back", "tank", 0), ("back", 0), ("undo",), ("house", PLACES, False),
                (None, "ash"), (["few"], 1), ("few", nested(29, tuple)), House(PLACES), Book(PLACES)]


class Making(Exact):
    def test_at_first(self):
        for careful in (False, True):
            house = House(PLACES, careful=careful)
            self.exactly((house.case, house.careful), (((PLACES, ()), (), (), 0), careful))
            self.exactly((list(house), len(house), house.log(), str(house), house.counts(), house.table()), ([], 0, (("house", PLACES, careful),), "-", (0, 0), []))
            self.exactly((house.sure(), house.possible(), house.cleared(), house.outside(), house.any_story()), ((), (), (), (), ()))
        self.exactly(House(places=PLACES).careful, False)
        self.exactly((House.MOST, House.ROWS), (40, 16))

    def test_wrong_places(self):
        """The errors of lets_book for the places without rows; ahead of careful."""
        for places in [*ODD, None, [("tank", "heap")], "tank", (("tank", "vat"),), ("tank", "heap"), (("Tank", "heap"),), (["tank", "heap"],), BOOK, CASE]:
            if places != ():
                self.raising(InvalidPaper("shape", -1), House, places)
                self.raising(InvalidPaper("shape", -1), House, places=places, careful=None)
        for places in [(), PLACES[::-1], (PLACES[0],) * 2, (("tank", "heap"), ("tank", "pipe"))]:
            self.raising(InvalidPaper("places", -1), House, places)
            self.raising(InvalidPaper("places", -1), House, places=places, careful=1)

    def test_wrong_careful(self):
        for careful in [*ODD, None, 0, 1, "True", ()]:
            if not isinstance(careful, bool):
                self.raising(NotUsable("careful", -1), House, PLACES, careful=careful)

    def test_kinds_of_events(self):
        for event in FORMS:
            self.told(True, is_event, event)
            self.exactly(is_event(thing=event), True)
        for thing in wrong_shapes():
            self.exactly(is_event(thing), False)


class Events(Exact):
    def test_the_example(self):
        house = House((("line", "pipe"), ("tank", "heap")))
        self.exactly([house.do_all(*ROWS[:4]), house.suspect("ash"), house.suspect("cedar"), house.set_few(1), house.risk("line", 5)],
                     [4, ((), ()), ((), ()), ((), ("ash",)), 4])
        self.exactly([house.do_all(*ROWS[4:]), house.find("bad", 5), house.sure(), house.possible(), house.outside(), house.barred(("clear", "cedar"))],
                     [2, ((), ("ash", "cedar")), (), ("ash", "cedar"), (3, 5), None])
        self.exactly([house.clear("cedar"), house.table()[3:]],
                     [(("ash",), ("ash",)), [" 3 sell    2 -     0..2", " 4 come    3 -     -", " 5 sell    6 bad   1..4"]])

    def test_answers(self):
        """Of a row its number; of the others the lots that are surely bad and that can be bad."""
        house = House(PLACES)
        for t, row in enumerate(ROWS):
            self.exactly(house.go(row), t)
        self.exactly(house(("suspect", "cedar")), ((), ()))
        self.exactly(house.go(("suspect", "ash")), ((), ()))
        self.exactly(house.go(event=("few", 2)), ((), ("ash", "cedar")))
        self.exactly(house(event=("find", "bad", 4)), (("cedar",), ("ash", "cedar")))
        self.exactly(house(("few", 1)), (("cedar",), ("cedar",)))
        self.exactly(house.case, (BOOK, (("bad", 4),), ("ash", "cedar"), 1))
        self.exactly(house(("clear", "ash")), (("cedar",), ("cedar",)))
        self.exactly(house.case[2], ("cedar",))

    def test_own_methods(self):
        """Each is the event, with its values by position and by name."""
        calls = [("come", ("tank", "ash", 4), ("place", "lot", "n")), ("move", ("tank", "line", 2), ("one", "other", "n")),
                 ("sell", ("tank", 2), ("place", "n")), ("waste", ("line", 1), ("place", "n")), ("back", (2, "line"), ("s", "place")),
                 ("suspect", ("ash",), ("lot",)), ("few", (1,), ("n",)), ("find", ("bad", 1), ("word", "t")), ("suspect", ("elm",), ("lot",)),
                 ("clear", ("elm",), ("lot",))]
        one, other, third = House(PLACES), House(PLACES), House(PLACES)
        for word, values, names in calls:
            method = "set_few" if word == "few" else word
            wanted = one.go((word, *values))
            self.exactly(getattr(other, method)(*values), wanted)
            self.exactly(getattr(third, method)(**dict(zip(names, values))), wanted)
            self.exactly((other.log(), third.log()), (one.log(), one.log()))
            self.exactly((facts(other), other.counts(), third.counts()), (facts(one), one.counts(), one.counts()))

    def test_own_methods_with_any_values(self):
        house = example()
        for odd in ODD:
            for method, word, event in [("sell", "sell", ("sell", odd, 1)), ("waste", "waste", ("waste", "tank", odd)), ("back", "back", ("back", 3, odd)),
                                        ("come", "come", ("come", "tank", odd, 1)), ("move", "move", ("move", odd, "line", 1)),
                                        ("find", "find", ("find", odd, 1)), ("suspect", "suspect", ("suspect", odd)), ("clear", "clear", ("clear", odd)),
                                        ("set_few", "few", ("few", odd))]:
                self.raising(InvalidEvent(event, "shape"), getattr(house, method), *event[1:])
        self.raising(InvalidEvent(("find", "bad", 5), "there"), house.find, word="bad", t=5)
        self.raising(InvalidEvent(("few", 1), "same"), house.set_few, n=1)

    def refused(self, house, event, reason):
        """By go, a call and barred, with nothing changed but counts."""
        kept, counts = facts(house), house.counts()
        self.exactly(house.barred(event), reason)
        self.exactly(house.barred(event=event), reason)
        self.exactly(house.counts(), counts)
        self.raising(InvalidEvent(event, reason), house.go, event)
        self.raising(InvalidEvent(event, reason), house, event)
        self.raising(InvalidEvent(event, reason), house.go, event=event)
        self.exactly(house.counts(), (counts[0] + 3, counts[1] + 3))
        self.raising(InvalidEvent(event, reason), house.tried, event)
        self.raising(InvalidEvent(event, reason), house.tried, FORMS[7] if reason == "nothing" else event, None)
        self.exactly(facts(house), kept)

    def test_shape(self):
        for house in (example(), House(TANK)):
            for event in wrong_shapes():
                self.refused(house, event, "shape")
        full = House(TANK)
        full.do_all(*[("few", 1 - k % 2) for k in range(40)])
        for event in [None, (), ("few", True), ("come", "tank", "ash", 0), ["few", 1]]:
            self.refused(full, event, "shape")

    def test_full(self):
        """At forty events, ahead of all that is wrong with an event by kind."""
        house = House(TANK)
        for k in range(40):
            self.exactly(house.barred(("few", 1 - k % 2)), None)
            house.set_few(1 - k % 2)
        for event in [*FORMS, ("few", 0), ("few", 1), ("clear", "ash"), ("sell", "tank", 3), ("find", "bad", 7)]:
            self.refused(house, event, "full")
        self.exactly(house.undo(), ("few", 0))
        self.exactly(house.suspect("ash"), ((), ()))
        self.refused(house, ("suspect", "elm"), "full")

    def test_long(self):
        """At sixteen rows, ahead of what is wrong with a row; other events go on."""
        house = House(TANK, careful=True)
        for k in range(16):
            self.exactly(house.come("tank", "ash", k + 1), k)
        for event in [("come", "tank", "ash", 1), ("sell", "tank", 1), ("move", "tank", "tank", 1), ("back", 0, "tank"), ("waste", "shed", 1)]:
            self.refused(house, event, "long")
        house.do_all(("suspect", "ash"), ("few", 1), ("find", "bad", 15))
        self.refused(house, ("sell", "tank", 1), "long")
        self.refused(house, ("find", "bad", 16), "row")
        self.exactly(len(house), 16)
        self.exactly(house.risk("tank", 136), 136)

    def test_row(self):
        house = example()
        for row in [("come", "shed", "ash", 1), ("move", "tank", "tank", 1), ("move", "shed", "tank", 1), ("move", "tank", "shed", 1), ("sell", "tank", 2),
                    ("sell", "line", 3), ("waste", "tank", 9), ("waste", "vat", 1), ("back", 2, "tank"), ("back", 6, "tank"), ("back", 3, "shed"),
                    ("back", 0, "line"), ("sell", "tank", 10 ** 60)]:
            self.refused(house, row, "row")
        house.back(3, "line")
        self.refused(house, ("back", 3, "line"), "row")
        # Ahead of what a careful house refuses.
        careful = House(TANK, careful=True)
        careful.do_all(("come", "tank", "ash", 2), ("suspect", "ash"), ("few", 1))
        self.refused(careful, ("sell", "tank", 3), "row")
        self.refused(careful, ("sell", "tank", 2), "bad")

    def test_bad(self):
        """A careful house sells no unit that can be bad; it moves and wastes them."""
        house = House(PLACES, careful=True)
        house.do_all(("come", "tank", "ash", 2), ("come", "line", "elm", 2), ("sell", "tank", 1), ("suspect", "ash"), ("few", 1))
        self.refused(house, ("sell", "tank", 1), "bad")
        self.exactly(house.sell("line", 1), 3)
        self.exactly(house.waste("line", 1), 4)
        self.exactly(house.barred(("waste", "tank", 1)), None)
        self.exactly(house.barred(("move", "tank", "line", 1)), None)
        house.find("bad", 2)
        self.refused(house, ("sell", "tank", 1), "bad")
        house.find("clean", 3)
        house.set_few(3)
        self.exactly(house.suspect("elm"), (("ash",), ("ash", "elm")))
        self.refused(house, ("sell", "tank", 1), "bad")
        # The same house that is not careful.
        plain = House(PLACES)
        plain.do_all(*house.log()[1:])
        self.exactly(plain.sell("tank", 1), 5)
        # A part of what is left cannot be bad any more.
        pipe = House((("line", "pipe"),), careful=True)
        pipe.do_all(("come", "line", "ash", 3), ("come", "line", "elm", 2), ("suspect", "elm"), ("few", 1))
        self.refused(pipe, ("sell", "line", 4), "bad")
        self.exactly(pipe.sell("line", 3), 2)
        self.refused(pipe, ("sell", "line", 1), "bad")

    def test_findings(self):
        house = example()
        for word in ("bad", "clean"):
            for t in (6, 7, 10 ** 60):
                self.refused(house, ("find", word, t), "row")
            self.refused(house, ("find", word, 5), "there")
        # Nothing but ash and cedar is suspected, and there are units of both in no parcel alone.
        self.refused(house, ("find", "bad", 1), "story")
        house.find("bad", 2)
        self.refused(house, ("find", "clean", 0), "story")
        self.refused(house, ("find", "bad", 4), "story")
        self.refused(house, ("find", "clean", 2), "there")
        # Ahead of what no story explains: the one unit of ash is what was sold.
        one = House(TANK)
        one.do_all(("come", "tank", "ash", 1), ("sell", "tank", 1), ("suspect", "ash"), ("few", 1), ("find", "bad", 0), ("find", "bad", 1))
        self.refused(one, ("find", "clean", 1), "there")
        self.exactly(one.undo(), ("find", "bad", 1))
        self.refused(one, ("find", "clean", 1), "story")

    def test_suspects_and_few(self):
        house = example()
        self.refused(house, ("suspect", "ash"), "there")
        self.refused(house, ("clear", "birch"), "missing")
        self.refused(house, ("few", 1), "same")
        self.refused(house, ("few", 0), "story")
        house.clear("cedar")
        self.refused(house, ("clear", "cedar"), "missing")
        self.refused(house, ("clear", "ash"), "story")
        self.exactly(house.barred(("suspect", "zz")), None)
        self.exactly(house.suspect("zz"), (("ash",), ("ash",)))

    def test_random_events_by_all_stories(self):
        """Reasons, answers and cases, event by event."""
        reasons = set()
        for seed in range(60):
            dice = random.Random(seed)
            careful = bool(seed % 2)
            places = tuple(sorted(dice.sample([("keg", "heap"), ("line", "pipe"), ("tank", "heap")], dice.randint(1, 3))))
            house = House(places, careful=careful)
            case, log = house.case, [("house", places, careful)]
            for event in [("suspect", "ash"), ("few", 1), *[None] * 24]:
                event = event or random_event(dice, case)
                reason = reason_by_model(case, careful, len(log) - 1, event)
                self.exactly(house.barred(event), reason)
                reasons.add(reason)
                if reason is not None:
                    self.raising(InvalidEvent(event, reason), house.go, event)
                    continue
                case = after_by_model(case, event)
                log.append(event)
                told = house.go(event)
                wanted = len(case[0][1]) - 1 if event[0] in ("come", "move", "sell", "waste", "back") else sure_and_possible(case)
                self.exactly(told, wanted)
                self.exactly((house.case, house.log()), (case, tuple(log)))
                if len(case[0][1]) > 9:
                    break
            self.told_by_stories(house, case)
        self.assertEqual(reasons, {None, "row", "bad", "there", "missing", "same", "story"})

    def told_by_stories(self, house, case):
        lets_case(house.case)
        stories = model_stories(case)
        self.exactly(bool(stories), True)
        self.exactly(is_story(case, house.any_story()), True)
        sure, possible = sure_and_possible(case)
        self.exactly((house.sure(), house.possible()), (sure, possible))
        came = {row[2] for row in case[0][1] if row[0] == "come"}
        self.exactly(house.cleared(), tuple(sorted(came - set(possible))))
        outside = sales_by_model(case[0])
        self.exactly(house.outside(), outside)
        for some in (outside, outside[:1], ()):
            self.exactly(house.numbers(some), tuple(sorted({number_by_model(story, some) for story in stories})))
        there = units_of_book(case[0]).there
        for place, _ in case[0][0]:
            self.exactly(house.units(place), len(there[place]))
            if there[place]:
                after = after_by_model(case, ("sell", place, 1))
                self.exactly(house.risk(place, 1), max(sum(story[-1]) for story in model_stories(after)))

    def test_what_a_careful_house_sold(self):
        """[64], (B8): with the suspects and few of the time of each sale no unit of it could be bad."""
        sold = 0
        for seed in range(40):
            dice = random.Random(seed + 1000)
            house = House((("keg", "heap"), ("line", "pipe")), careful=True)
            while len(house) < 9 and len(house.log()) < 20:
                event = random_event(dice, house.case)
                if house.barred(event) is None:
                    house.go(event)
                    if event[0] == "sell":
                        sold += 1
                        self.exactly(any(sum(story[-1]) > 0 for story in model_stories(house.case)), False)
        self.assertGreater(sold, 20)

    def test_a_lot_that_cannot_be_bad_can_be_cleared(self):
        for seed in range(30):
            dice = random.Random(seed + 2000)
            house = House((("keg", "heap"), ("line", "pipe")))
            house.do_all(("suspect", "ash"), ("suspect", "birch"), ("suspect", "cedar"), ("few", 2))
            while len(house) < 8 and len(house.log()) < 25:
                event = random_event(dice, house.case)
                if house.barred(event) is None:
                    house.go(event)
            self.assertLessEqual(set(house.sure()), set(house.possible()))
            self.assertLessEqual(set(house.possible()), set(house.case[2]))
            for lot in house.case[2]:
                if lot not in house.possible():
                    self.exactly(house.barred(("clear", lot)), None)
            self.exactly(is_explained(house.case), True)


class Courses(Exact):
    def test_trials(self):
        house = example()
        kept, counts = facts(house), house.counts()
        self.exactly(house.tried(), CASE)
        self.exactly(house.tried(("clear", "cedar")), (*CASE[:2], ("ash",), 1))
        self.exactly(house.tried(("back", 3, "line"), ("find", "clean", 6)), ((BOOK[0], (*ROWS, ("back", 3, "line"))), (("bad", 5), ("clean", 6)), *CASE[2:]))
        self.raising(InvalidEvent(("back", 3, "line"), "row"), house.tried, ("back", 3, "line"), ("back", 3, "line"), None)
        self.raising(InvalidEvent(None, "shape"), house.tried, ("few", 2), None, ("few", 2))
        self.raising(InvalidEvent(("few", 2), "same"), house.tried, ("few", 2), ("few", 2), None)
        self.exactly((facts(house), house.counts()), (kept, counts))
        nearly = House(TANK)
        nearly.do_all(*[("few", 1 - k % 2) for k in range(39)])
        self.raising(InvalidEvent(("few", 4), "full"), nearly.tried, ("few", 3), ("few", 4))
        self.exactly(nearly.tried(("few", 3)), ((TANK, ()), (), (), 3))

    def test_undo(self):
        house = House(PLACES)
        told = []
        for event in EVENTS:
            told.append(facts(house))
            house.go(event)
        for event, wanted in zip(EVENTS[::-1], told[::-1]):
            self.exactly(house.undo(), event)
            self.exactly(facts(house), wanted)
        counts = house.counts()
        for k in range(1, 3):
            self.raising(NothingToUndo(0), house.undo)
            self.exactly(house.counts(), (counts[0] + k, counts[1] + k))
        self.exactly(facts(house), facts(House(PLACES)))

    def test_done_again(self):
        """Undone and done again, the answer is the same."""
        for seed in range(10):
            dice = random.Random(seed)
            house = House(PLACES)
            for _ in range(30):
                event = random_event(dice, house.case, 5)
                if house.barred(event) is None:
                    before = facts(house)
                    told, behind = house.go(event), facts(house)
                    self.exactly((house.undo(), facts(house)), (event, before))
                    self.exactly((house.go(event), facts(house)), (told, behind))

    def test_do_all(self):
        house = House(PLACES)
        self.exactly((house.do_all(), house.counts()), (0, (1, 1)))
        self.exactly((house.do_all(*EVENTS), house.counts(), len(house.log())), (10, (2, 2), 11))
        self.exactly((house.do_all(("clear", "cedar"), keep=True), house.case[2]), (1, ("ash",)))
        self.exactly((house.do_all(keep=True), house.counts()), (0, (4, 4)))

    def test_do_all_behind_an_error(self):
        good = [("back", 3, "line"), ("clear", "cedar"), ("few", 2)]
        for wrong, reason in [(None, "shape"), (("few", -1), "shape"), (("few", 2), "same"), (("back", 3, "line"), "row"), (("clear", "ash"), "story"),
                              (("suspect", "ash"), "there"), (("clear", "cedar"), "missing")]:
            for keep in (False, True, None, 1, "True"):
                house = example()
                kept, counts = facts(house), house.counts()
                self.raising(InvalidEvent(wrong, reason), house.do_all, *good, wrong, ("suspect", "elm"), None, keep=keep)
                wanted = example()
                if keep is True:
                    wanted.do_all(*good)
                self.exactly(facts(house), facts(wanted))
                self.exactly(facts(wanted) == kept, keep is not True)
                self.exactly(house.counts(), (counts[0] + 1, counts[1] + 1))
        house = example()
        self.raising(InvalidEvent(None, "shape"), house.do_all, *good, None)
        self.exactly(facts(house), facts(example()))
        house = House(TANK)
        self.raising(InvalidEvent(("few", 1), "full"), house.do_all, *[("few", 1 - k % 2) for k in range(41)], keep=True)
        self.exactly(len(house.log()), 41)
        self.raising(InvalidEvent(("few", 1), "full"), House(TANK).do_all, *[("few", 1 - k % 2) for k in range(41)])

    def test_counts(self):
        house = House(PLACES)
        calls = [lambda: house.go(ROWS[0]), lambda: house(ROWS[1]), lambda: house.move("tank", "line", 5), lambda: house.come("tank", "ash", 1),
                 lambda: house.sell("tank", 2), lambda: house.waste("tank", 1), lambda: house.back(4, "tank"), lambda: house.suspect("ash"),
                 lambda: house.set_few(1), lambda: house.find("bad", 4), lambda: house.suspect("elm"), lambda: house.clear("elm"), lambda: house.undo(),
                 lambda: house.do_all(("suspect", "oak"), ("clear", "oak")), lambda: house.do_all()]
        for k, call in enumerate(calls):
            self.exactly(house.counts(), (k, k))
            call()
        many = len(calls)
        self.exactly(house.counts(), (many, many))
        wrong = [lambda: house.go(None), lambda: house(("few", 1)), lambda: house.move("tank", "tank", 5), lambda: house.come("tank", "ash", 0),
                 lambda: house.sell("tank", 99), lambda: house.waste("shed", 1), lambda: house.back(4, "tank"), lambda: house.suspect("ash"),
                 lambda: house.set_few(1), lambda: house.find("bad", 4), lambda: house.clear("yew"), lambda: house.do_all(("few", 1), ("few", 1)),
                 lambda: house.do_all(("few", 2), None, keep=True)]
        for k, call in enumerate(wrong):
            with self.assertRaises(InvalidEvent):
                call()
            self.exactly(house.counts(), (many + k + 1, many + k + 1))
        empty = House(PLACES)
        with self.assertRaises(NothingToUndo):
            empty.undo()
        self.exactly(empty.counts(), (1, 1))

    def each_counted(self, house, calls):
        """Call with answers or errors, and compare the counts behind each call: one started and one finished more."""
        many, finished = house.counts()
        for k, (call, args, more, wanted) in enumerate(calls):
            if isinstance(wanted, LotError):
                self.raising(wanted, call, *args, **more)
            else:
                self.exactly(call(*args, **more), wanted)
            self.exactly(house.counts(), (many + k + 1, finished + k + 1))

    def in_rows_and_mixed(self, answered, refused):
        """Orders of calls, none of which hangs on the others."""
        mixed = [call for pair in zip(answered, refused) for call in pair]
        yield from [answered * 2, refused * 3, answered + refused, refused + answered, mixed * 2, mixed[::-1]]
        for seed in range(6):
            yield random.Random(seed).choices(answered + refused, k=20)

    def refusals(self, house):
        """Calls of the example that are refused, by go, by a call of the House and by its own methods."""
        told = [(house.go, None, "shape"), (house.go, ("few", 1), "same"), (house, ("few", 0), "story"), (house, ["few", 2], "shape"),
                (house.come, ("come", "tank", "ash", 0), "shape"), (house.move, ("move", "line", "line", 1), "row"), (house.sell, ("sell", "tank", 2), "row"),
                (house.waste, ("waste", "shed", 1), "row"), (house.back, ("back", 4, "tank"), "row"), (house.find, ("find", "clean", 5), "there"),
                (house.suspect, ("suspect", "ash"), "there"), (house.clear, ("clear", "yew"), "missing"), (house.set_few, ("few", True), "shape")]
        return [(call, (event,) if call in (house.go, house) else event[1:], {}, InvalidEvent(event, reason)) for call, event, reason in told]

    def test_counts_of_refused_events(self):
        house = example()
        kept = facts(house)
        refused = self.refusals(house)
        self.each_counted(house, refused)
        self.each_counted(house, refused[::-1])
        for call in refused:
            self.each_counted(house, [call] * 3)
        self.exactly((facts(house), house.counts()), (kept, (1 + 5 * len(refused),) * 2))

    def test_counts_of_events(self):
        """Events by go, by a call of the House and by its own methods, in a row and with refused ones between them."""
        for between in (0, 1, 3):
            house = example()
            told = [(house.go, (("find", "clean", 3),), ((), ("ash", "cedar"))), (house, (("suspect", "elm"),), ((), ("ash", "cedar"))), (house.come, ("tank", "ash", 3), 6),
                    (house.move, ("tank", "line", 2), 7), (house.sell, ("tank", 1), 8), (house.waste, ("line", 2), 9), (house.back, (8, "tank"), 10),
                    (house.find, ("bad", 4), (("cedar",), ("cedar",))), (house.suspect, ("oak",), (("cedar",), ("cedar",))),
                    (house.clear, ("elm",), (("cedar",), ("cedar",))), (house.set_few, (2,), (("cedar",), ("ash", "cedar")))]
            refused = [(house.go, (None,), {}, InvalidEvent(None, "shape")), (house, (("clear", "yew"),), {}, InvalidEvent(("clear", "yew"), "missing")),
                       (house.sell, ("tank", 99), {}, InvalidEvent(("sell", "tank", 99), "row"))]
            for call, args, wanted in told:
                self.each_counted(house, [(call, args, {}, wanted), *refused[:between]])
            self.exactly(house.counts(), (1 + len(told) * (1 + between),) * 2)
            again = House(PLACES)
            for event in house.log()[1:]:
                again(event)
            self.exactly((again == house, again.counts()), (True, (len(EVENTS) + len(told),) * 2))

    def test_counts_of_do_all(self):
        """One for each do_all, however many events are in it, with keep and without."""
        back = (("suspect", "elm"), ("clear", "elm"))
        house = House(PLACES)
        answered = [(house.do_all, (), {}, 0), (house.do_all, (), {"keep": True}, 0), (house.do_all, back, {"keep": False}, 2)]
        refused = [(house.do_all, (None,), {}, InvalidEvent(None, "shape")), (house.do_all, (*back * 3, ("few", 0)), {}, InvalidEvent(("few", 0), "same")),
                   (house.do_all, (("clear", "elm"), *back), {"keep": True}, InvalidEvent(("clear", "elm"), "missing"))]
        for order in self.in_rows_and_mixed(answered, refused):
            while len(house.log()) > 1:
                house.undo()
            self.each_counted(house, order)
        full = House(PLACES)
        self.each_counted(full, [(full.do_all, (*back * 20,), {"keep": True}, 40)] + [(full.do_all, back, {"keep": True}, InvalidEvent(back[0], "full"))] * 3
                          + [(full.do_all, (), {}, 0)] * 2)
        self.exactly((full.counts(), len(full.log())), ((6, 6), 41))

    def test_counts_of_do_all_that_keeps(self):
        """The events ahead of the failing one stay, and are not counted."""
        house = example()
        wrong = (house.do_all, (("few", 2), ("few", 1), None, ("few", 3)), {"keep": True}, InvalidEvent(None, "shape"))
        good = (house.do_all, (("few", 2), ("few", 1)), {"keep": True}, 2)
        self.each_counted(house, [wrong, wrong, good, good, wrong, good, wrong])
        self.exactly((house.counts(), len(house.log())), ((8, 8), 25))

    def test_counts_of_undo(self):
        """Undoing to the beginning and further, and again with events between."""
        house = example()
        back = [(house.undo, (), {}, event) for event in EVENTS[::-1]]
        none = [(house.undo, (), {}, NothingToUndo(0))]
        self.each_counted(house, back[:3])
        self.each_counted(house, back[3:] + none * 4)
        self.exactly(house.counts(), (15, 15))
        done, undone = [(house.go, (("few", 1),), {}, ((), ()))], [(house.undo, (), {}, ("few", 1))]
        wrong = [(house.go, (("few", 0),), {}, InvalidEvent(("few", 0), "same"))]
        self.each_counted(house, done + undone + none + done + undone + done + undone + none * 2 + wrong + none + wrong * 2)
        self.exactly((house.counts(), facts(house)), ((28, 28), facts(House(PLACES))))

    def test_counts_at_random(self):
        """Events, do_all and undo in any order; of a House to which nothing happens nothing is counted."""
        for seed in range(8):
            dice = random.Random(seed)
            house, other = House(PLACES), House(PLACES)
            for k in range(60):
                self.exactly(house.counts(), (k, k))
                kept, word = house.log(), dice.choice(["go", "call", "all", "keep", "undo", "wrong"])
                if word == "undo":
                    if len(kept) == 1:
                        self.raising(NothingToUndo(0), house.undo)
                    else:
                        self.exactly((house.undo(), house.log()), (kept[-1], kept[:-1]))
                    continue
                event = None if word == "wrong" else random_event(dice, house.case, 4)
                reason = house.barred(event)
                call = {"go": house.go, "call": house}.get(word, house.do_all)
                more = {"keep": True} if word == "keep" else {}
                if reason is None:
                    call(event, **more)
                else:
                    self.raising(InvalidEvent(event, reason), call, event, **more)
                self.exactly(house.log(), (*kept, event) if reason is None else kept)
            self.exactly((house.counts(), other.counts()), ((60, 60), (0, 0)))

    def test_not_counted(self):
        """Questions, trials and the making of a House."""
        house = example()
        counts = house.counts()
        facts(house)
        house.tried(("few", 2))
        house.barred(None)
        house.any_story()
        self.ask(house)
        for call in [lambda: house.tried(None), lambda: house.risk("shed", 1), lambda: house.units("shed"), lambda: house.numbers((2,)),
                     lambda: house.safest((), 1)]:
            with self.assertRaises((InvalidEvent, NotUsable)):
                call()
        self.exactly(house.counts(), counts)
        self.exactly((House(PLACES).counts(), House.read("house plain tank heap\nfew 1").counts()), ((0, 0), (0, 0)))

    def ask(self, house):
        return (house.numbers((3,)), house.back_sets(0), house.fewest_back(0), house.fewest_looks((3,), (3,)), list(house.fills(("tank",), 1)),
                house.safest(("tank",), 1), house.risk("tank", 1), "ash" in house)


class Equality(Exact):
    def test_equal_logs(self):
        one, other = example(), House(PLACES, careful=False)
        for event in EVENTS:
            self.exactly((one == other, other == one, one != other), (False, False, True))
            other(event)
        self.exactly((one == other, other == one, one != other, one == one), (True, True, False, True))
        self.assertNotEqual(one.counts(), other.counts())
        other.undo()
        self.exactly(one == other, False)
        other.find("bad", 5)
        self.exactly(one == other, True)
        self.exactly(one == House.read(house_text(one)), True)

    def test_other_logs(self):
        one = example()
        # The same case, by another log.
        other = House(PLACES)
        other.do_all(*EVENTS[:6], EVENTS[7], EVENTS[6], *EVENTS[8:])
        self.exactly((one.case == other.case, one == other), (True, False))
        careful = House(PLACES, careful=True)
        self.exactly((careful == House(PLACES), careful == House(PLACES, careful=True)), (False, True))
        self.exactly(House(TANK) == House((("tank", "pipe"),)), False)
        self.exactly(House(TANK) == House((("tin", "heap"),)), False)
        few = House(TANK)
        few.set_few(1)
        self.raising(InvalidEvent(("few", True), "shape"), few.set_few, True)
        self.exactly(few == House(TANK), False)

    def test_other_values(self):
        house = example()
        for thing in [*ODD, house.log(), house.case, [house], (house,), [[house]], str(house), list(house), ROWS, Book.of(BOOK), House]:
            self.exactly((house == thing, thing == house, house != thing), (False, False, True))


def house_text(house):
    from lotback.houselines import log_lines
    return "\n".join(log_lines(house.log()))


class Telling(Exact):
    def test_iteration(self):
        house = example()
        self.exactly((list(house), tuple(house), len(house)), (list(ROWS), ROWS, 6))
        walked = []
        for row in house:
            walked.append(row)
            if len(house) < 9:
                house.waste("line", 1) if house.units("line") else house.come("line", "elm", 1)
        self.exactly(walked, list(ROWS))

    def test_suspects(self):
        house = example()
        self.exactly(["ash" in house, "cedar" in house, "birch" in house, "elm" in house], [True, True, False, False])
        for odd in [*ODD, ROWS[0], house, ["ash"], ("ash",)]:
            self.exactly(odd in house, False)
        house.clear("cedar")
        self.exactly("cedar" in house, False)

    def test_str(self):
        house = example()
        self.exactly(str(house), "come tank ash 4 / come tank birch 4 / move tank line 5 / sell tank 2 / come line cedar 3 / sell line 6 / "
                                 "suspect ash / suspect cedar / few 1 / find bad 5")

    def test_units(self):
        house = example()
        self.exactly((house.units("tank"), house.units("line"), house.units(place="line")), (1, 2, 2))
        for odd in [*ODD, "shed", "", ("tank",), ["tank"], 0, house]:
            self.raising(NotUsable("place", -1), house.units, odd)

    def test_risk(self):
        house = House(PLACES)
        house.do_all(*ROWS[:4], ("suspect", "ash"), ("suspect", "cedar"), ("few", 1))
        self.exactly([house.risk("line", n) for n in range(1, 6)], [1, 2, 3, 4, 4])
        self.exactly(house.risk(place="tank", n=1), 1)
        for place, n in [("line", 6), ("tank", 2), ("shed", 1), ("line", 0), ("line", -1), ("line", True), ("line", "1"), ("line", None), (None, 1), (("line",), 1),
                         (["line"], 1), ("Line", 1), ("line", (1,)), ("line", 10 ** 60), (house, house)]:
            self.raising(NotUsable("row", -1), house.risk, place, n)
        for odd in ODD:
            self.raising(NotUsable("row", -1), house.risk, "line", odd)
            self.raising(NotUsable("row", -1), house.risk, odd, 1)
        careful = House(PLACES, careful=True)
        careful.do_all(*ROWS[:4], ("suspect", "ash"), ("few", 1))
        self.exactly(careful.risk("line", 5), 4)
        careful.find("clean", 2)
        self.exactly((careful.risk("line", 5), careful.risk("tank", 1)), (0, 1))
        # Forty events and sixteen rows do not matter.
        full = House(TANK)
        full.do_all(*[("come", "tank", "ash", 1)] * 16, ("suspect", "ash"), *[("few", 1 + k % 2) for k in range(23)])
        self.exactly((full.barred(("few", 9)), full.risk("tank", 16)), ("full", 16))

    def test_advice(self):
        """As the functions for the case."""
        for house in (example(), example_of(3), example_of(8), example_of(11)):
            case = house.case
            outside = house.outside()
            self.exactly((house.sure(), house.possible(), house.cleared()), (surely_bad(case), can_be_bad(case), cleared(case)))
            for some in (outside, outside[:1], outside[1:], ()):
                self.exactly(house.numbers(some), numbers_of(case, some))
                self.exactly(house.numbers(sales=some), numbers_of(case, some))
                for parcels in (outside[-1:], tuple(range(min(3, len(house))))):
                    if not any(t in parcels for _, t in case[1]):
                        self.exactly(house.fewest_looks(some, parcels), fewest_looks(case, some, parcels))
                        self.exactly(house.fewest_looks(sales=some, parcels=parcels), fewest_looks(case, some, parcels))
            for left in range(5):
                self.exactly((house.back_sets(left), house.fewest_back(left)), (back_sets(case, left), fewest_back(case, left)))
                self.exactly((house.back_sets(left=left), house.fewest_back(left=left)), (back_sets(case, left), fewest_back(case, left)))
            names = tuple(place for place, _ in case[0][0])
            there = sum(house.units(place) for place in names)
            for n in range(1, min(4, there + 1)):
                self.exactly(list(house.fills(names, n)), list(fills(case, names, n)))
                self.exactly(list(house.fills(places=names, n=n)), list(fills(case, names, n)))
                self.exactly(house.safest(names, n), safest(case, names, n))
                self.exactly(house.safest(places=names, n=n), safest(case, names, n))
            self.exactly(is_story(case, house.any_story()), True)

    def test_errors_of_advice(self):
        house = example()
        kept = facts(house), house.counts()
        for odd in [*ODD, "3", 3]:
            if odd != ():
                self.raising(NotUsable("sales", 0 if isinstance(odd, tuple) else -1), house.numbers, odd)
                self.raising(NotUsable("sales", 0 if isinstance(odd, tuple) else -1), house.fewest_looks, odd, None)
            if odd != 3:
                self.raising(NotUsable("left", -1), house.back_sets, odd)
                self.raising(NotUsable("left", -1), house.fewest_back, odd)
            if not isinstance(odd, tuple):
                self.raising(NotUsable("parcels", -1), house.fewest_looks, (3,), odd)
            if odd != 3:
                self.raising(NotUsable("units", -1), house.safest, ("tank",), odd)
                self.raising(NotUsable("units", -1), lambda n: list(house.fills(("tank",), n)), odd)
            self.raising(NotUsable("places", 0 if isinstance(odd, tuple) and odd else -1), house.safest, odd, None)
            self.raising(NotUsable("places", 0 if isinstance(odd, tuple) and odd else -1), lambda places: list(house.fills(places, None)), odd)
        self.raising(NotUsable("parcels", 0), house.fewest_looks, (3,), (5,))
        self.raising(NotUsable("units", -1), house.safest, ("tank",), 2)
        self.exactly((facts(house), house.counts()), kept)

    def test_table(self):
        house = example()
        wanted = [" 0 come    4 -     -", " 1 come    4 -     -", " 2 move    5 -     -", " 3 sell    2 -     0..2", " 4 come    3 -     -", " 5 sell    6 bad   1..4"]
        self.exactly(house.table(), wanted)
        house.do_all(("back", 3, "line"), ("waste", "line", 3), ("find", "clean", 6), ("come", "tank", "elm", 999))
        wanted[3:4] = [" 3 sell    2 -     -"]
        self.exactly(house.table(), [*wanted, " 6 back    2 clean -", " 7 waste   3 -     -", " 8 come  999 -     -"])
        self.assertIsNot(house.table(), house.table())
        big = House(TANK)
        big.do_all(*[("come", "tank", "ash", 10 ** 59)] * 10, ("sell", "tank", 1234), ("suspect", "ash"), ("few", 1))
        self.exactly(big.table()[9:], [" 9 come  1" + "0" * 59 + " -     -", "10 sell  1234 -     0..1234"])

    def test_arguments_are_not_changed(self):
        house = House(PLACES)
        things = [["come", "tank", "ash", 1], [1], [["a"]]]
        kept = copy.deepcopy(things)
        for thing in things:
            with self.assertRaises(InvalidEvent) as caught:
                house.go(thing)
            self.assertIs(caught.exception.event, thing)
            house.barred(thing)
        self.exactly(things, kept)


def example_of(seed):
    """A house with random events."""
    dice = random.Random(seed)
    house = House(PLACES, careful=bool(seed % 2))
    house.do_all(("suspect", "ash"), ("suspect", "birch"), ("few", 1), ("come", "tank", "elm", 4), ("sell", "tank", 2), ("come", "line", "ash", 5))
    while len(house) < 11 and len(house.log()) < 30:
        event = random_event(dice, house.case, 6)
        if house.barred(event) is None:
            house.go(event)
    return house


class Whole(Exact):
    def test_houses_with_all_limits(self):
        """Sixteen rows of up to twenty units, five lots, few three: each answer is that of the functions for the case."""
        for seed in range(6):
            dice = random.Random(seed + 77)
            house = House((("keg", "heap"), ("line", "pipe"), ("rack", "pipe"), ("tank", "heap")))
            house.do_all(*[("suspect", lot) for lot in LOTS], ("few", 3))
            for place, lot in [("keg", "ash"), ("line", "birch"), ("rack", "cedar"), ("tank", "elm")]:
                house.come(place, lot, 20)
            for _ in range(400):
                event = random_event(dice, house.case, 20)
                if event[0] not in ("clear", "few") and house.barred(event) is None:
                    self.exactly(house.tried(event), after_by_model(house.case, event))
                    told = house.go(event)
                    if event[0] in ("find", "suspect"):
                        self.exactly(told, (surely_bad(house.case), can_be_bad(house.case)))
                    self.exactly(is_explained(house.case), True)
            self.exactly(len(house.table()), len(house))
            for t, row in zip(house.outside(), house.table()):
                numbers = numbers_of(house.case, (t,))
                self.exactly(house.table()[t].split(" ")[-1], f"{numbers[0]}..{numbers[-1]}")
            self.exactly(row_is_possible(house.case[0], ("come", "tank", "ash", 1)), True)
            self.exactly(all(lot in house for lot in house.possible()), True)
            story = house.any_story()
            self.assertLessEqual(guilty_by_model(house.case[0], story), set(house.possible()))
