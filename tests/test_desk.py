"""[69]: a desk, which is spoken to by strings."""
import random

from lotback.desk import Desk
from lotback.errors import (HouseError, InvalidEvent, InvalidPaper, InvalidRow, LotError, NothingToUndo, NotUsable)
from lotback.houselines import event_line, house_line
from lotback.houses import House
from tests.common import Exact
from tests.model import random_event
from tests.test_houselines import GOOD, KINDS, WRONG
from tests.test_houses import EVENTS, PLACES

BIG = "1" + "0" * 59
QUESTIONS = ["undo", "count", "log", "table", "findings", "rows", "few", "suspects", "sure", "possible", "outside"]
FIRST = "house plain line pipe tank heap"


def example():
    desk = Desk()
    for text in [FIRST, *[event_line(event) for event in EVENTS]]:
        desk.say(text)
    return desk


def no_commands():
    """Strings that a desk does not know."""
    yield from ["", " ", "-", "hello", "House plain tank heap", "house", "house ", "house plain", "house plain tank", "house plain Tank heap", "house plain tank pool",
                "house plain tank heap tin", "house sure tank heap", "house plain tank heap ", "house plain tank heap\n", "house tank heap", "houses plain tank heap"]
    for word in QUESTIONS:
        yield from [word + " ", " " + word, word.upper(), word + "s" if word not in ("row", "suspect") else word + "x", word + "\n", word + " x", word + "\n" + word]
    for word in [word for word in QUESTIONS if word != "few"]:
        yield word + " 1"
    for word in ("clear", "suspect", "find", "units", "risk", "back", "numbers", "come", "move", "sell", "waste"):
        yield from [word, word + " ", word.title() + " tank"]
    for name in WRONG["name"]:
        yield from ["units " + name, f"risk {name} 1"]
    for number in WRONG["number"]:
        yield from ["risk tank " + number, "back " + number, "numbers " + number, "numbers 1 " + number, f"numbers {number} 1"]
    yield from ["units tank line", "units tank 1", "risk tank", "risk 1 tank", "risk tank 1 1", "back 1 1", "back tank", "back tank 1", "numbers 3,5", "numbers 3  5",
                "fewest 1", "cleared", "advice", "case", "safest tank 1", "find 1 bad", "find bad", "few -1", "few 1 1", "sell tank 0"]
    for first, kinds in KINDS.items():
        words = [GOOD[kind][0] for kind in kinds]
        for k, kind in enumerate(kinds):
            for wrong in WRONG[kind]:
                line = " ".join((first, *words[:k], wrong, *words[k + 1:]))
                yield line


class Desks(Exact):
    def asked(self, desk, **answers):
        for word, wanted in answers.items():
            self.exactly(desk.say(word), wanted)

    def test_the_example(self):
        desk = Desk()
        told = [desk.say("house plain tank heap"), desk.say("come tank ash 4"), desk.say("suspect ash"), desk.say("few 1"), desk.say("risk tank 3")]
        self.exactly(told, ["ok", "0", "- -", "- ash", "3"])

    def test_nothing_at_first(self):
        desk = Desk()
        self.exactly(desk.say(FIRST), "ok")
        self.asked(desk, count="0", log="-", table="-", findings="-", rows="0", few="0", suspects="-", sure="-", possible="-", outside="-")
        self.exactly([desk.say("units tank"), desk.say("units line"), desk.say("back 0"), desk.say("back " + BIG)], ["0", "0", "0", "0"])
        self.raising(NothingToUndo(0), desk.say, "undo")

    def test_answers(self):
        desk = example()
        lines = [event_line(event) for event in EVENTS]
        rows = [" 0 come    4 -     -", " 1 come    4 -     -", " 2 move    5 -     -", " 3 sell    2 -     0..2", " 4 come    3 -     -", " 5 sell    6 bad   1..4"]
        self.asked(desk, count="10", log=" / ".join(lines), table=" / ".join(rows), findings="bad 5", rows="6", few="1", suspects="ash cedar", sure="-",
                   possible="ash cedar", outside="3 5")
        self.exactly([desk.say("units tank"), desk.say("units line"), desk.say("risk tank 1"), desk.say("risk line 2")], ["1", "2", "1", "2"])
        self.exactly([desk.say("back 0"), desk.say("back 2"), desk.say("back 3"), desk.say("back 4")], ["8", "6", "6", "0"])
        self.exactly([desk.say("numbers 3"), desk.say("numbers 5"), desk.say("numbers 3 5")], ["0 1 2", "1 2 3 4", "1 2 3 4"])
        self.exactly(desk.say(row="find clean 3"), "- ash,cedar")
        self.exactly(desk.say("findings"), "bad 5 / clean 3")
        self.exactly([desk.say("clear cedar"), desk.say("sure"), desk.say("possible")], ["ash ash", "ash", "ash"])
        self.exactly([desk.say("back 3 tank"), desk.say("outside"), desk.say("rows")], ["6", "5", "7"])
        self.exactly([desk.say("suspect cedar"), desk.say("few 2"), desk.say("find bad 4")], ["- ash,cedar", "- ash,cedar", "cedar ash,cedar"])
        self.exactly([desk.say("suspect birch"), desk.say("few 3"), desk.say("find bad 1"), desk.say("sure")],
                     ["cedar ash,birch,cedar", "cedar ash,birch,cedar", "birch,cedar ash,birch,cedar", "birch cedar"])

    def test_numbers_of_one_kind(self):
        desk = Desk()
        for text in [FIRST, "come tank ash 3", "sell tank 2"]:
            desk.say(text)
        self.exactly([desk.say("numbers 1"), desk.say("table")], ["0", " 0 come    3 -     - /  1 sell    2 -     0..0"])

    def test_undo(self):
        desk = example()
        for event in EVENTS[::-1]:
            self.exactly(desk.say("undo"), event_line(event))
        self.raising(NothingToUndo(0), desk.say, "undo")
        self.exactly((desk.say("count"), desk.say("log")), ("0", "-"))

    def test_first_a_house(self):
        """Before the first House any string but its line."""
        desk = Desk()
        for text in [*no_commands(), *QUESTIONS, "few 1", "suspect ash", "come tank ash 1", "back 0 tank", "back 0", "units tank", "risk tank 1", "numbers 0", "find bad 0"]:
            self.raising(InvalidRow(text), desk.say, text)
        # A House that cannot be made is none.
        self.raising(InvalidPaper("places", -1), desk.say, "house plain tank heap line pipe")
        self.raising(InvalidRow("rows"), desk.say, "rows")
        self.exactly((desk.say("house careful tank heap"), desk.say("rows")), ("ok", "0"))

    def test_no_commands(self):
        desk = example()
        kept = [desk.say(text) for text in QUESTIONS[1:]]
        for text in no_commands():
            self.raising(InvalidRow(text), desk.say, text)
            self.raising(InvalidRow(text), desk.say, row=text)
        self.exactly([desk.say(text) for text in QUESTIONS[1:]], kept)

    def test_one_character_changed(self):
        """What is still answered is another command; all else is refused with the very string."""
        texts = [*QUESTIONS[1:], "units tank", "risk tank 1", "back 2", "numbers 3 5", "few 2", "find clean 3", "suspect elm", "house plain tank heap", "back 3 tank"]
        refused = 0
        for text in texts:
            for k in range(len(text)):
                for other in (text[:k] + text[k + 1:], text[:k] + "x" + text[k + 1:], text[:k] + " " + text[k:], text[:k] + text[k].upper() + text[k + 1:],
                              text[:k] + "\n" + text[k:], text[:k] + "0" + text[k:]):
                    desk = example()
                    try:
                        desk.say(other)
                    except InvalidRow as caught:
                        self.exactly(caught.row, other)
                        refused += 1
                    except (HouseError, InvalidPaper, NotUsable):
                        pass
                    self.exactly(desk.counts(), (12, 12))
        self.assertGreater(refused, 600)

    def test_errors_of_the_house(self):
        desk = example()
        kept = [desk.say(text) for text in QUESTIONS[1:]]
        for text, error in [("few 1", InvalidEvent(("few", 1), "same")), ("few 0", InvalidEvent(("few", 0), "story")), ("find bad 9", InvalidEvent(("find", "bad", 9), "row")),
                            ("sell tank 2", InvalidEvent(("sell", "tank", 2), "row")), ("back 9 tank", InvalidEvent(("back", 9, "tank"), "row")),
                            ("suspect ash", InvalidEvent(("suspect", "ash"), "there")), ("clear elm", InvalidEvent(("clear", "elm"), "missing")),
                            ("units shed", NotUsable("place", -1)), ("risk tank 0", NotUsable("row", -1)), ("risk tank 2", NotUsable("row", -1)),
                            ("risk shed 1", NotUsable("row", -1)), ("risk tank " + BIG, NotUsable("row", -1)), ("numbers 2", NotUsable("sales", 0)),
                            ("numbers 3 3", NotUsable("sales", 1)), ("numbers 5 3", NotUsable("sales", 1)), ("numbers 3 5 6", NotUsable("sales", 2)),
                            ("numbers " + BIG, NotUsable("sales", 0)), ("house plain tank heap line pipe", InvalidPaper("places", -1)),
                            ("house careful tank heap tank heap", InvalidPaper("places", -1))]:
            self.raising(error, desk.say, text)
            self.raising(error, desk.say, row=text)
        self.exactly([desk.say(text) for text in QUESTIONS[1:]], kept)

    def test_new_house(self):
        desk = example()
        self.exactly((desk.say("house careful tank heap"), desk.say("log"), desk.say("suspects"), desk.say("few")), ("ok", "-", "-", "0"))
        for text in ["come tank ash 2", "suspect ash", "few 1"]:
            desk.say(text)
        self.raising(InvalidEvent(("sell", "tank", 1), "bad"), desk.say, "sell tank 1")
        self.raising(InvalidPaper("places", -1), desk.say, "house plain tank heap keg heap")
        self.exactly((desk.say("log"), desk.say("waste tank 1")), ("come tank ash 2 / suspect ash / few 1", "1"))
        self.exactly((desk.say("house plain tank heap"), desk.say("count")), ("ok", "0"))

    def test_counts(self):
        """Every string is started and finished, also one that raises an error."""
        desk = Desk()
        many = 0
        self.exactly(desk.counts(), (0, 0))
        for text in ["rows", "", FIRST, "rows", "few 0", "few 1", "hello", "house plain", "house plain tank heap line pipe", "units shed", "undo", "undo", "table", FIRST]:
            try:
                desk.say(text)
            except LotError:
                pass
            many += 1
            self.exactly(desk.counts(), (many, many))

    def test_counts_of_answers_and_errors_in_any_order(self):
        """Behind each call as many were started as finished; answers and errors stay the same, whatever was said ahead."""
        answered = [("count", "10"), ("units tank", "1"), ("numbers 3 5", "1 2 3 4"), ("back 2", "6"), ("suspects", "ash cedar"), ("log", " / ".join(map(event_line, EVENTS)))]
        refused = [("", InvalidRow("")), ("few 1 1", InvalidRow("few 1 1")), ("house plain tank", InvalidRow("house plain tank")),
                   ("few 0", InvalidEvent(("few", 0), "story")), ("sell tank 2", InvalidEvent(("sell", "tank", 2), "row")), ("units shed", NotUsable("place", -1)),
                   ("risk tank 2", NotUsable("row", -1)), ("numbers 5 3", NotUsable("sales", 1)), ("house plain tank heap line pipe", InvalidPaper("places", -1))]
        mixed = [thing for pair in zip(answered, refused) for thing in pair]
        orders = [answered, answered * 3, refused, refused * 3, answered + refused, refused + answered, mixed * 2, [*mixed[::-1], *mixed]]
        orders.extend(random.Random(seed).choices(answered + refused, k=30) for seed in range(6))
        for order in orders:
            desk = example()
            self.say_each(desk, order, 11)
            self.asked(desk, count="10", rows="6")

    def test_counts_of_changes(self):
        """Also events, undoing and other Houses, with errors between them."""
        desk = Desk()
        said = [("undo", InvalidRow("undo")), ("few 1", InvalidRow("few 1")), ("house plain line pipe tank heap", "ok"), ("undo", NothingToUndo(0)), ("undo", NothingToUndo(0)),
                ("come tank ash 4", "0"), ("sell tank 5", InvalidEvent(("sell", "tank", 5), "row")), ("sell tank 2", "1"), ("suspect ash", "- -"),
                ("suspect ash", InvalidEvent(("suspect", "ash"), "there")), ("few 1", "- ash"), ("find bad 1", "ash ash"), ("few 0", InvalidEvent(("few", 0), "story")),
                ("undo", "find bad 1"), ("undo", "few 1"), ("house plain tank heap line pipe", InvalidPaper("places", -1)), ("rows", "2"), ("house careful tank heap", "ok"),
                ("rows", "0"), ("undo", NothingToUndo(0)), ("", InvalidRow("")), ("count", "0")]
        self.say_each(desk, said, 0)
        self.say_each(desk, said[3:5] * 2, len(said))
        # Of another desk nothing is counted.
        other = Desk()
        self.say_each(other, said, 0)
        self.exactly(desk.counts(), (len(said) + 4, len(said) + 4))

    def say_each(self, desk, said, many):
        """Say strings with their answers or errors to a desk that has counted so many, and compare its counts behind each."""
        for k, (text, wanted) in enumerate(said):
            if isinstance(wanted, str):
                self.exactly(desk.say(text), wanted)
            else:
                self.raising(wanted, desk.say, text)
            self.exactly(desk.counts(), (many + k + 1, many + k + 1))

    def test_as_the_house(self):
        """Random events by a desk and by a House."""
        for seed in range(12):
            dice = random.Random(seed)
            careful = bool(seed % 2)
            desk, house = Desk(), House(PLACES, careful=careful)
            self.exactly(desk.say(house_line(PLACES, careful=careful)), "ok")
            for event in [("suspect", "ash"), ("few", 1), *[None] * 40]:
                event = event or random_event(dice, house.case, 4)
                reason = house.barred(event)
                if reason is not None:
                    self.raising(InvalidEvent(event, reason), desk.say, event_line(event))
                    continue
                told = house.go(event)
                if isinstance(told, tuple):
                    told = " ".join(",".join(lots) or "-" for lots in told)
                self.exactly(desk.say(event_line(event)), str(told))
                if len(house) % 4 == 3:
                    self.same(desk, house)
            self.same(desk, house)

    def same(self, desk, house):
        def spaced(things):
            return " ".join(map(str, things)) or "-"
        self.asked(desk, count=str(len(house.log()) - 1), log=str(house), table=" / ".join(house.table()) or "-", rows=str(len(house)), few=str(house.case[3]),
                   suspects=spaced(house.case[2]), sure=spaced(house.sure()), possible=spaced(house.possible()), outside=spaced(house.outside()),
                   findings=" / ".join(f"{word} {t}" for word, t in house.case[1]) or "-")
        for place, _ in PLACES:
            self.exactly(desk.say("units " + place), str(house.units(place)))
            if house.units(place):
                self.exactly(desk.say(f"risk {place} 1"), str(house.risk(place, 1)))
        for left in (0, 2):
            self.exactly(desk.say(f"back {left}"), str(house.fewest_back(left)))
        if house.outside():
            self.exactly(desk.say("numbers " + spaced(house.outside())), spaced(house.numbers(house.outside())))

    def test_two_desks(self):
        one, other = example(), Desk()
        self.raising(InvalidRow("rows"), other.say, "rows")
        other.say("house plain tank heap")
        self.exactly((one.say("rows"), other.say("rows")), ("6", "0"))
