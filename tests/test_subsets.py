"""The sets that much of the rest goes through."""
import itertools

from lotback.subsets import (broad_sets, by_size, greatest_sets, has_within, is_within, meets, sets_up_to, suspects_that_came, telling_sets,
                             within_another, without)
from tests.common import BOOK, Exact
from tests.model import subsets


class Sets(Exact):
    def test_sets_up_to(self):
        for many in range(6):
            things = tuple("abcde"[:many])
            for most in [*range(7), 10 ** 60]:
                wanted = [some for some in subsets(things) if len(some) <= most]
                self.told(wanted, sets_up_to, things, most)
                size = min(most, many)
                self.told(list(itertools.combinations(things, size)), greatest_sets, things, size)
                self.told(list(itertools.combinations(things, size)), greatest_sets, things, most)
        things = tuple(f"lot{letter}" for letter in "abcdefghijklmnopqrstuvwxyz")
        self.told([things], greatest_sets, things, 10 ** 60)
        self.exactly(len(greatest_sets(things, 25)), 26)

    def test_within(self):
        self.exactly([is_within((), ()), is_within((), ("a",)), is_within(("a",), ()), is_within(("a", "c"), ("a", "b", "c"))],
                     [True, True, False, True])
        self.exactly([has_within([], ("a",)), has_within([("b",), ("a",)], ("a",)), has_within([("b",), ("a", "b")], ("a",))],
                     [False, True, False])
        self.exactly([within_another([]), within_another([()]), within_another([("a",), ("b",)]), within_another([("a", "b"), ("b",)])],
                     [None, None, None, 1])
        self.exactly([without(("a", "b", "c"), ("b", "d")), meets(("a", "b"), ("b",)), meets(("a",), ("b",)), meets((), ())],
                     [("a", "c"), True, False, False])
        self.exactly(by_size([("a", "b"), (), ("c",), ("a",)]), [(), ("c",), ("a",), ("a", "b")])

    def test_sets_of_suspects(self):
        case = (BOOK, (), ("ash", "cedar", "elm"), 2)
        self.exactly(suspects_that_came(case), ("ash", "cedar"))
        self.exactly((broad_sets(case), telling_sets(case)),
                     ([("ash", "cedar"), ("ash", "elm"), ("cedar", "elm")], [("ash", "cedar")]))
        self.exactly((broad_sets((*case[:3], 0)), telling_sets((BOOK, (), (), 3))), ([()], [()]))
