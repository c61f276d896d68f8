"""What the tests share: example values, other values, and exact comparisons."""
import copy
import unittest

from lotback.errors import NotUsable

ROWS = (('come', 'tank', 'ash', 4), ('come', 'tank', 'birch', 4), ('move', 'tank', 'line', 5),
        ('sell', 'tank', 2), ('come', 'line', 'cedar', 3), ('sell', 'line', 6))
BOOK = ((('line', 'pipe'), ('tank', 'heap')), ROWS)
CASE = (BOOK, (('bad', 5),), ('ash', 'cedar'), 1)
PURE = (BOOK, (("bad", 5), ("clean", 2)), ("ash", "cedar"), 1)

# A book with rows of all five kinds: pipes that are taken from by parts and
# over several parcels, a parcel that comes back into a pipe, one into a heap.
PLACES = (("line", "pipe"), ("rack", "pipe"), ("tank", "heap"), ("vat", "heap"))
LONG = (PLACES, (
    ("come", "line", "ash", 5),       # 0
    ("come", "line", "birch", 4),     # 1
    ("sell", "line", 3),              # 2: 3 of 0
    ("move", "line", "tank", 4),      # 3: 2 of 0, 2 of 1
    ("come", "tank", "cedar", 6),     # 4
    ("sell", "tank", 7),              # 5: tank keeps 3
    ("back", 2, "line"),              # 6: behind the 2 of 1
    ("waste", "line", 4),             # 7: 2 of 1, 2 of 6
    ("back", 5, "vat"),               # 8
    ("move", "vat", "rack", 7),       # 9: vat becomes empty
    ("sell", "rack", 2),              # 10: 2 of 9
    ("move", "rack", "vat", 1),       # 11: 1 of 9
    ("come", "rack", "ash", 2),       # 12
    ("sell", "rack", 5),              # 13: 4 of 9, 1 of 12
))


def nested(depth, kind):
    """A value nested so deep, of tuples or lists."""
    thing = 1
    for _ in range(depth):
        thing = kind((thing,))
    return thing


def with_changes(thing):
    """Yield values in which one thing is changed, at any depth."""
    if isinstance(thing, tuple):
        yield list(thing)
        yield None
        for k, part in enumerate(thing):
            for other in with_changes(part):
                yield (*thing[:k], other, *thing[k + 1:])
            yield (*thing[:k], *thing[k + 1:])
            yield (*thing[:k], part, part, *thing[k + 1:])
            if k > 0:
                yield (*thing[:k - 1], part, thing[k - 1], *thing[k + 1:])
    elif isinstance(thing, str):
        yield from ("", thing + "x", None, thing.upper())
    elif isinstance(thing, int):
        yield from (thing + 1, thing - 1, str(thing), None, True, False)
    else:
        yield from (0, ())


# Any values that are neither names, numbers, places, rows, findings, tuples of
# these, books, cases nor stories.
ODD = [None, True, False, -1, "", "Ash", "toolongname", "a b", "ash\n", "caf1", [], [1], ["ash"], [()],
       (None,), (True,), ((), (), ()), ((True,),), (-1,), ((-1,),), ("ash", True), ("in", True),
       ("bad",), ("bad", -1), ("bad", True), ["bad", 1], ("clean", "1"), ("worse", 1), ("come",),
       nested(30, tuple), nested(30, list), ("come", nested(28, tuple), "ash", 1), -10 ** 59,
       [("tank", "heap")], (("tank", "heap"), 3)]


# A case in which lots and sales of all kinds can be wrong: sales 1 (came back), 3, 5; no sales 0, 2, 4.
MANY = (((("tank", "heap"), ("tin", "pipe")), (
    ("come", "tank", "ash", 4), ("sell", "tank", 2), ("back", 1, "tank"), ("sell", "tank", 1), ("come", "tin", "birch", 3),
    ("sell", "tin", 2), ("waste", "tank", 1), ("sell", "tank", 1))), (), ("ash", "birch", "cedar"), 2)


# The same without a story: nobody is suspected, and a bad unit was found in what is no sale outside.
BARRED = (MANY[0], (("bad", 6),), (), 2)


# Ash and birch lie in one tank, birch and cedar in the other one; of both a bad unit was found.
SIZES = (((("tank", "heap"), ("tin", "heap")), (
    ("come", "tank", "ash", 2), ("come", "tank", "birch", 2), ("come", "tin", "birch", 2), ("come", "tin", "cedar", 2),
    ("sell", "tank", 1), ("sell", "tin", 1))), (("bad", 4), ("bad", 5)), ("ash", "birch", "cedar"), 2)


def fields_of(error):
    """The fields of an error, by name."""
    return dict(vars(error))


class Exact(unittest.TestCase):
    """Comparisons in which True differs from 1, and a tuple from a list."""

    maxDiff = None

    def exactly(self, got, wanted):
        self.assertEqual(repr(got), repr(wanted))

    def raising(self, error, call, *args, **more):
        """The call raises exactly this error, with these fields, and changes no argument."""
        # What is written as an object at an address differs from its copy.
        kept = copy.deepcopy(args) if " object at " not in repr(args) else None
        try:
            got = call(*args, **more)
        except Exception as caught:
            self.assertIs(type(caught), type(error), repr(caught))
            self.assertEqual(repr(fields_of(caught)), repr(fields_of(error)))
        else:
            self.fail(f"nothing raised for {args!r} {more!r}, but {got!r}")
        if kept is not None:
            self.assertEqual(repr(kept), repr(args))

    def wrong_lots(self, call, *more, ahead=()):
        """The call, of case, lots (behind what stands ahead) and more, refuses all that is no set of suspects."""
        def refused(at, case, lots):
            self.raising(NotUsable("lots", at), call, case, *ahead, lots, *more)
        for lots in [None, [], ["ash"], "ash", 3, True, {}, ("ash", "birch", "cedar"), (None, None, None), ("ash",) * 3]:
            refused(-1, MANY, lots)
        refused(-1, (*MANY[:3], 0), ("ash",))
        for odd in [*ODD, "elm", "Ash", ("ash",), ["ash"], 0, BOOK]:
            refused(0, MANY, (odd,))
            refused(1, MANY, ("ash", odd))
            refused(0, MANY, (odd, None))
        refused(1, MANY, ("ash", "ash"))
        refused(1, MANY, ("birch", "ash"))
        refused(0, (*MANY[:2], (), 2), ("ash",))

    def wrong_sales(self, call, *more, ahead=()):
        """The call, of case, sales and more, refuses all that is no set of sales outside."""
        def refused(at, sales):
            self.raising(NotUsable("sales", at), call, MANY, *ahead, sales, *more)
        for sales in [None, [], [3], "3", "", 3, True, {}]:
            refused(-1, sales)
        for odd in [*ODD, 0, 1, 2, 4, 6, 8, 10 ** 60, "3", (3,), [3], MANY]:
            refused(0, (odd,))
            refused(1, (3, odd))
            refused(0, (odd, None))
            refused(2, (3, 5, odd, 7))
        refused(1, (3, 3))
        refused(1, (5, 3))
        refused(2, (3, 7, 5))
        # True is not the sale 1.
        sold = ((MANY[0][0], MANY[0][1][:2]), *MANY[1:])
        self.raising(NotUsable("sales", 0), call, sold, *ahead, (True,), *more)

    def wrong_left(self, call, *more):
        """The call, of case, left and more, refuses all that is no number."""
        for odd in [*ODD, (), (3,), "3", MANY, MANY[0]]:
            self.raising(NotUsable("left", -1), call, MANY, odd, *more)
            self.raising(NotUsable("left", -1), call, BARRED, odd, *more)

    def wrong_parcels(self, call, *more):
        """The call, of case, sales, parcels and more, refuses all that is no set of rows without a finding."""
        def refused(at, parcels, case=MANY):
            self.raising(NotUsable("parcels", at), call, case, (3,), parcels, *more)
        for parcels in [None, [], [3], "3", "", 3, True, {}]:
            refused(-1, parcels)
        for odd in [*ODD, 8, 9, 10 ** 60, "3", (3,), [3], MANY]:
            refused(0, (odd,))
            refused(1, (3, odd))
            refused(0, (odd, None))
            refused(2, (3, 5, odd, 7))
        refused(1, (3, 3))
        refused(1, (5, 3))
        refused(2, (0, 7, 2))
        found = (MANY[0], (("bad", 5), ("clean", 1)), *MANY[2:])
        refused(0, (5,), found)
        refused(1, (0, 1, 5), found)
        refused(0, (True,), found)
        # Sales ahead of parcels.
        for sales, at in [(None, -1), ((3, 3), 1)]:
            self.raising(NotUsable("sales", at), call, MANY, sales, None, *more)

    def wrong_places(self, call, *more):
        """The call, of case, places and more, refuses all that is no nonempty set of places."""
        def refused(at, places):
            self.raising(NotUsable("places", at), call, MANY, places, *more)
            self.raising(NotUsable("places", at), call, BARRED, places, *more)
        for places in [None, [], ["tank"], "tank", "", 3, True, {}, ()]:
            refused(-1, places)
        for odd in [*ODD, "line", "ash", ("tank",), ("tank", "heap"), ["tank"], 0, MANY]:
            refused(0, (odd,))
            refused(1, ("tank", odd))
            refused(0, (odd, None))
        refused(1, ("tank", "tank"))
        refused(1, ("tin", "tank"))
        refused(2, ("tank", "tin", "tank"))

    def wrong_units(self, call, *more):
        """The call, of case, places, units and more, refuses all that is no number of units that are there."""
        def refused(places, units):
            self.raising(NotUsable("units", -1), call, MANY, places, units, *more)
            self.raising(NotUsable("units", -1), call, BARRED, places, units, *more)
        for odd in [*ODD, 0, 3, 10 ** 60, (), "1", (1,), MANY]:
            refused(("tank", "tin"), odd)
        refused(("tank",), 2)
        refused(("tin",), 2)
        self.raising(NotUsable("places", 0), call, MANY, (None,), None, *more)

    def told(self, wanted, call, *args, **more):
        """The call returns exactly this, and changes no argument."""
        kept = copy.deepcopy(args)
        self.assertEqual(repr(call(*args, **more)), repr(wanted))
        self.assertEqual(repr(kept), repr(args))
