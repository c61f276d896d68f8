"""What the tests share: example values, other values, and exact comparisons."""
import copy
import unittest

ROWS = (('come', 'tank', 'ash', 4), ('come', 'tank', 'birch', 4), ('move', 'tank', 'line', 5),
        ('sell', 'tank', 2), ('come', 'line', 'cedar', 3), ('sell', 'line', 6))
BOOK = ((('line', 'pipe'), ('tank', 'heap')), ROWS)
CASE = (BOOK, (('bad', 5),), ('ash', 'cedar'), 1)
PURE = (BOOK, (("bad", 5), ("clean", 2)), ("ash", "cedar"), 1)

# A book with rows of all five kinds: pipes that are taken from by parts and
# over several parcels, a parcel that comes back into a pipe, one into a heap.
PLACES = (("line", "pipe"), ("rack", "pipe"), ("tank", "heap"), ("vat", "heap"))
LONG = (PLACES, (
    ("come", "line", "ash", 5),       # 0
    ("come", "line", "birch", 4),     # 1
    ("sell", "line", 3),              # 2: 3 of 0
    ("move", "line", "tank", 4),      # 3: 2 of 0, 2 of 1
    ("come", "tank", "cedar", 6),     # 4
    ("sell", "tank", 7),              # 5: tank keeps 3
    ("back", 2, "line"),              # 6: behind the 2 of 1
    ("waste", "line", 4),             # 7: 2 of 1, 2 of 6
    ("back", 5, "vat"),               # 8
    ("move", "vat", "rack", 7),       # 9: vat becomes empty
    ("sell", "rack", 2),              # 10: 2 of 9
    ("move", "rack", "vat", 1),       # 11: 1 of 9
    ("come", "rack", "ash", 2),       # 12
    ("sell", "rack", 5),              # 13: 4 of 9, 1 of 12
))


def nested(depth, kind):
    """A value nested so deep, of tuples or lists."""
    thing = 1
    for _ in range(depth):
        thing = kind((thing,))
    return thing


# Any values that are neither names, numbers, places, rows, findings, tuples of
# these, books, cases nor stories.
ODD = [None, True, False, -1, "", "Ash", "toolongname", "a b", "ash\n", "caf1", [], [1], ["ash"], [()],
       (None,), (True,), ((), (), ()), ((True,),), (-1,), ((-1,),), ("ash", True), ("in", True),
       ("bad",), ("bad", -1), ("bad", True), ["bad", 1], ("clean", "1"), ("worse", 1), ("come",),
       nested(30, tuple), nested(30, list), ("come", nested(28, tuple), "ash", 1), -10 ** 59,
       [("tank", "heap")], (("tank", "heap"), 3)]


def fields_of(error):
    """The fields of an error, by name."""
    return dict(vars(error))


class Exact(unittest.TestCase):
    """Comparisons in which True differs from 1, and a tuple from a list."""

    maxDiff = None

    def exactly(self, got, wanted):
        self.assertEqual(repr(got), repr(wanted))

    def raising(self, error, call, *args, **more):
        """The call raises exactly this error, with these fields, and changes no argument."""
        # What is written as an object at an address differs from its copy.
        kept = copy.deepcopy(args) if " object at " not in repr(args) else None
        try:
            got = call(*args, **more)
        except Exception as caught:
            self.assertIs(type(caught), type(error), repr(caught))
            self.assertEqual(repr(fields_of(caught)), repr(fields_of(error)))
        else:
            self.fail(f"nothing raised for {args!r} {more!r}, but {got!r}")
        if kept is not None:
            self.assertEqual(repr(kept), repr(args))

    def told(self, wanted, call, *args, **more):
        """The call returns exactly this, and changes no argument."""
        kept = copy.deepcopy(args)
        self.assertEqual(repr(call(*args, **more)), repr(wanted))
        self.assertEqual(repr(kept), repr(args))
