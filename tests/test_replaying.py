"""Logs and houses that are replayed from them; [8] (B8)."""
import random

from lotback.errors import InvalidEvent, InvalidPaper, NotUsable
from lotback.houselines import log_lines
from lotback.houseread import read_log
from lotback.houses import House
from lotback.replaying import is_log, replayed
from tests.common import BOOK, CASE, ODD, Exact, with_changes
from tests.model import LOTS, random_event
from tests.test_houses import EVENTS, FORMS, PLACES, TANK, example, example_of, facts, wrong_shapes

HEAD = ("house", PLACES, False)


class Replaying(Exact):
    def test_logs(self):
        for log in [(HEAD,), (("house", TANK, True),), (HEAD, *EVENTS), example().log(), (HEAD, *FORMS), (HEAD, ("few", 0), ("few", 0))]:
            self.told(True, is_log, log)
            self.exactly(is_log(thing=log), True)

    def test_no_logs(self):
        for thing in [*ODD, None, (), [], [HEAD], HEAD, (None,), (list(HEAD),), (HEAD, None), (None, HEAD), (HEAD, HEAD), EVENTS, (*EVENTS, HEAD), "house", BOOK,
                      CASE, example(), (example(),), (("House", PLACES, False),), ((["house"], PLACES, False),), (("house", PLACES),), (("house", PLACES, False, ()),),
                      (("house", PLACES, 0),), (("house", PLACES, 1),), (("house", PLACES, None),), (("house", PLACES, "True"),), (("house", (), False),),
                      (("house", PLACES[::-1], False),), (("house", list(PLACES), False),), (("house", None, True),), (("house", (("tank", "vat"),), True),),
                      (("house", (PLACES[0],) * 2, True),), (("house", False, PLACES),), ((), ), (((), (), ()),)]:
            self.exactly(is_log(thing), False)
        for event in wrong_shapes():
            self.exactly(is_log((HEAD, event)), False)
            self.exactly(is_log((HEAD, *EVENTS, event)), False)

    def test_equal(self):
        """A House replayed from its log is equal, and tells the same."""
        for seed in range(12):
            house = example_of(seed)
            kept = house.log()
            for again in (replayed(house.log()), replayed(log=house.log()), replayed(read_log(log_lines(house.log())))):
                self.exactly((again == house, house == again, again.counts()), (True, True, (0, 0)))
                self.exactly(facts(again), facts(house))
                self.exactly(str(again), str(house))
                again.go(("suspect", "zz"))
                self.exactly((again == house, house.log()), (False, kept))
                again.undo()
                self.exactly((again == house, again.counts()), (True, (2, 2)))

    def test_the_first_error(self):
        log = example().log()
        self.raising(InvalidEvent(("few", 1), "same"), replayed, (*log, ("few", 1), None))
        self.raising(InvalidEvent(None, "shape"), replayed, (*log, None, ("few", 1)))
        self.raising(InvalidEvent(("move", "tank", "line", 5), "row"), replayed, (log[0], *log[3:]))
        self.raising(InvalidPaper("places", -1), replayed, (("house", PLACES[::-1], False), None))
        self.raising(InvalidPaper("shape", -1), replayed, (("house", None, None), None))
        self.raising(NotUsable("careful", -1), replayed, (("house", PLACES, 1), None))
        self.raising(InvalidEvent(("sell", "tank", 2), "bad"), replayed, (("house", PLACES, True), ("suspect", "ash"), ("few", 1), *EVENTS[:6]))
        self.raising(InvalidEvent(("few", 1), "full"), replayed, (HEAD, *[("few", 1 - k % 2) for k in range(41)]))

    def test_events_left_out_repeated_changed(self):
        """As the events go one by one in a new House."""
        dice = random.Random(5)
        errors = 0
        for seed in range(6):
            log = example_of(seed).log()
            logs = [(*log[:k], *log[k + 1:]) for k in range(1, len(log))] + [(*log[:k], log[k], *log[k:]) for k in range(1, len(log))]
            logs += [(*log[:k], random_event(dice, example().case), *log[k + 1:]) for k in range(1, len(log))]
            for other in logs:
                self.exactly(is_log(other), True)
                house = House(other[0][1], careful=other[0][2])
                wanted = None
                for event in other[1:]:
                    if wanted is None and house.barred(event) is not None:
                        wanted = InvalidEvent(event, house.barred(event))
                    elif wanted is None:
                        house.go(event)
                if wanted is None:
                    self.exactly((replayed(other) == house, replayed(other).case), (True, house.case))
                else:
                    self.raising(wanted, replayed, other)
                    errors += 1
        self.assertGreater(errors, 50)

    def test_one_thing_changed(self):
        """Of what is a log a House can be begun; what is none is told so without an error."""
        told = set()
        for thing in with_changes((HEAD, ("come", "tank", "ash", 1), ("find", "bad", 0), ("suspect", LOTS[0]), ("few", 1))):
            told.add(is_log(thing))
            if is_log(thing):
                try:
                    self.exactly(replayed(thing).log(), thing)
                except InvalidEvent as caught:
                    self.assertIn(caught.event, thing)
        self.exactly(told, {True, False})
