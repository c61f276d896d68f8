"""[66], [67]: the lines of houses and events, and their readers."""
import itertools

from lotback.errors import InvalidEvent, InvalidPaper, InvalidText
from lotback.houselines import event_line, house_line, log_lines
from lotback.houseread import read_event, read_log
from lotback.houses import House
from tests.common import BOOK, ROWS, Exact
from tests.test_houses import EVENTS, FORMS, PLACES, TANK, example

BIG = "1" + "0" * 59
LINES = [("come tank ash 4", ("come", "tank", "ash", 4)), ("move tank line 5", ("move", "tank", "line", 5)), ("sell line 1", ("sell", "line", 1)),
         ("waste line " + BIG, ("waste", "line", 10 ** 59)), ("back 0 tank", ("back", 0, "tank")), ("back " + BIG + " come", ("back", 10 ** 59, "come")),
         ("find bad 0", ("find", "bad", 0)), ("find clean 17", ("find", "clean", 17)), ("suspect ash", ("suspect", "ash")), ("clear house", ("clear", "house")),
         ("few 0", ("few", 0)), ("few " + BIG, ("few", 10 ** 59)), ("come find few 1", ("come", "find", "few", 1)), ("suspect suspect", ("suspect", "suspect"))]
# Which words may stand at each place behind the first one.
KINDS = {"come": ("name", "name", "units"), "move": ("name", "name", "units"), "sell": ("name", "units"), "waste": ("name", "units"),
         "back": ("number", "name"), "find": ("word", "number"), "suspect": ("name",), "clear": ("name",), "few": ("number",)}
GOOD = {"name": ["ash", "abcdefgh", "z", "bad", "few"], "units": ["1", "20", BIG], "number": ["0", "7", BIG], "word": ["bad", "clean"]}
WRONG = {"name": ["", "Ash", "abcdefghi", "a1", "1", "a-b", "ash\n", "\nash", "*"], "units": ["", "0", "00", "01", "-1", "+1", "1x", "x", "1.0", BIG + "0", "1\n", "1_0"],
         "number": ["", "00", "01", "-1", "+1", "-0", "1x", "x", BIG + "0", "0\n", "1_0"], "word": ["", "Bad", "worse", "bad\n", "0", "cleans"]}
FIRST = ["", "Come", "house", "undo", "bad", "clean", "place", "suspects", "\ncome", "come\n", "few\n", "x", "0", "selling"]


class Events(Exact):
    def refused(self, at, field, text, **more):
        self.raising(InvalidText(at, field), read_event, text, **more)
        self.raising(InvalidText(at, field), read_event, text=text, **more)

    def test_lines(self):
        for text, event in LINES:
            self.told(text, event_line, event)
            self.exactly(event_line(event=event), text)
            self.told(event, read_event, text)
            self.exactly(read_event(text=text, line=7), event)
        for event in [*FORMS[:-1], *EVENTS]:
            self.exactly(read_event(event_line(event)), event)

    def test_each_word(self):
        """Each word wrong, missing, one too many; the first wrong one of several."""
        for first, kinds in KINDS.items():
            for words in itertools.product(*[GOOD[kind][:3] for kind in kinds]):
                line = " ".join((first, *words))
                self.exactly(event_line(read_event(line)), line)
                for more in ("x", "1", "", "\n"):
                    self.refused(0, len(words) + 1, line + " " + more)
                for k in range(len(words)):
                    self.refused(0, k + 1, " ".join((first, *words[:k])))
                    self.refused(3, k + 1, " ".join((first, *words[:k])), line=3)
                    for wrong in WRONG[kinds[k]]:
                        self.refused(0, k + 1, " ".join((first, *words[:k], wrong, *words[k + 1:])))
                        self.refused(10, k + 1, " ".join((first, *words[:k], wrong, "Bad", "")), line=10)

    def test_first_words(self):
        for word in FIRST:
            for line in (word, word + " tank ash 4", word + " bad 0", " " + word):
                self.refused(0, 0, line)
                self.refused(5, 0, line, line=5)
        self.refused(0, 0, "house plain tank heap")
        self.refused(0, 0, " few 1")
        self.refused(0, 1, "few  1")
        self.refused(0, 2, "few 1 ")
        self.refused(0, 1, "few 1\nfew 2")


class Houses(Exact):
    def refused(self, line, field, *lines):
        self.raising(InvalidText(line, field), read_log, list(lines))
        self.raising(InvalidText(line, field), read_log, lines=list(lines))
        self.raising(InvalidText(line, field), House.read, "\n".join(lines))

    def test_house_lines(self):
        for places, line in [(TANK, "tank heap"), (PLACES, "line pipe tank heap"), (PLACES[::-1], "tank heap line pipe"), ((("heap", "pipe"), ("pipe", "heap")), "heap pipe pipe heap")]:
            for careful, word in [(False, "plain"), (True, "careful")]:
                self.told(f"house {word} {line}", house_line, places, careful=careful)
                self.exactly(house_line(places=places, careful=careful), f"house {word} {line}")
                self.told((("house", places, careful),), read_log, [f"house {word} {line}"])
            self.exactly(house_line(places), "house plain " + line)

    def test_logs(self):
        log = example().log()
        lines = ["house plain line pipe tank heap", *[event_line(event) for event in EVENTS]]
        self.told(lines, log_lines, log)
        self.exactly(log_lines(log=log), lines)
        self.told(log, read_log, lines)
        self.exactly(read_log(lines=lines), log)
        self.exactly(log_lines(House(TANK, careful=True).log()), ["house careful tank heap"])
        # Whether places ascend, and whether an event is possible, is not checked.
        odd = (("house", PLACES[::-1], True), ("back", 9, "shed"), ("few", 0), ("clear", "elm"))
        self.exactly(read_log(log_lines(odd)), odd)

    def test_first_line(self):
        self.raising(InvalidText(0, 0), read_log, [])
        for line in ["", "few 1", "come tank ash 1", "House plain tank heap", " house plain tank heap", "houses plain tank heap"]:
            self.refused(0, 0, line)
            self.refused(0, 0, line, "few 1")
        for line, field in [("house", 1), ("house ", 1), ("house Plain tank heap", 1), ("house tank heap", 1), ("house plain", 2), ("house plain ", 2),
                            ("house careful Tank heap", 2), ("house plain tank", 3), ("house plain tank ", 3), ("house plain tank pool", 3),
                            ("house plain tank heap ", 4), ("house plain tank heap tin", 5), ("house plain tank heap tin tin", 5),
                            ("house plain tank heap 1 pipe", 4), ("house plain tank heap tin pipe x", 7), ("house plain tank heap tin pipe ", 6)]:
            self.refused(0, field, line)
            self.refused(0, field, line, "Few")
        for line, field in [("house plain tank heap\n", 3), ("house plain tank\n heap", 2), ("house\nplain tank heap", 0), ("house\n", 0)]:
            self.raising(InvalidText(0, field), read_log, [line])

    def test_later_lines(self):
        good = ["house plain tank heap", "few 1", "suspect ash"]
        self.exactly(len(read_log(good)), 3)
        for k in (1, 2, 3):
            for line, field in [("", 0), ("house plain tank heap", 0), ("house", 0), ("few", 1), ("few 01", 1), ("few 1 ", 2), ("Few 1", 0), ("undo", 0),
                                ("place tank heap", 0), ("suspects ash", 0), ("bad 1", 0), ("sell tank 0", 2)]:
                lines = [*good[:k], line, *good[k:]]
                self.refused(k, field, *lines)
                # The first of several.
                self.refused(k, field, *lines, "x", "")
                self.refused(0, 3, "house plain tank", *lines[1:])

    def test_read(self):
        house = example()
        text = "\n".join(log_lines(house.log()))
        for again in (House.read(text), House.read(text=text)):
            self.exactly((again.log(), again.case, again.counts(), again == house), (house.log(), house.case, (0, 0), True))
        careful = House.read("house careful tank heap\ncome tank elm 3\nsell tank 1")
        self.exactly((careful.careful, careful.case), (True, ((TANK, (("come", "tank", "elm", 3), ("sell", "tank", 1))), (), (), 0)))

    def test_order_of_errors(self):
        """InvalidText of any line, then InvalidPaper of the places, then InvalidEvent of the first event."""
        self.raising(InvalidText(2, 1), House.read, "house plain tank heap line pipe\nback 0 shed\nfew x\nfew")
        self.raising(InvalidPaper("places", -1), House.read, "house plain tank heap line pipe\nback 0 shed\nfew 0")
        self.raising(InvalidPaper("places", -1), House.read, "house careful tank heap tank pipe")
        self.raising(InvalidEvent(("back", 0, "shed"), "row"), House.read, "house plain line pipe tank heap\nfew 1\nback 0 shed\nfew 1")
        self.raising(InvalidEvent(("few", 0), "same"), House.read, "house plain tank heap\nfew 0\nback 0 shed")
        self.raising(InvalidEvent(("sell", "tank", 1), "bad"), House.read, "house careful tank heap\nsuspect ash\nfew 1\ncome tank ash 1\nsell tank 1")
        long = "house plain tank heap" + "\nfew 1\nfew 0" * 20
        self.exactly(len(House.read(long).log()), 41)
        self.raising(InvalidEvent(("few", 1), "full"), House.read, long + "\nfew 1")
        self.raising(InvalidText(0, 0), House.read, "")
        self.raising(InvalidText(1, 0), House.read, "house plain tank heap\n")
        self.raising(InvalidText(0, 0), House.read, "\nhouse plain tank heap")

    def test_the_example(self):
        self.exactly([event_line(("find", "bad", 5)), house_line((("tank", "heap"),), careful=True), read_event("back 3 tank")],
                     ["find bad 5", "house careful tank heap", ("back", 3, "tank")])
        self.exactly(read_log(["house plain line pipe tank heap", *[event_line(row) for row in ROWS]]), (("house", BOOK[0], False), *ROWS))
