"""[9]: the families and the fields of all errors."""
import unittest

from lotback import errors
from tests.common import ODD

FAMILIES = {
    "PaperError": [("InvalidPaper", ("word", "at"))],
    "CaseError": [("NotUsable", ("word", "at")), ("UnknownLot", ("lot",)), ("NoStory", ("blamed",))],
    "HouseError": [("InvalidEvent", ("event", "reason")), ("NothingToUndo", ("steps",))],
    "TextError": [("InvalidText", ("line", "field")), ("InvalidRow", ("row",))],
}


class Picky:
    """Fails when it is inspected."""

    def __eq__(self, other):
        raise AssertionError("compared")

    def __len__(self):
        raise AssertionError("measured")

    def __str__(self):
        raise AssertionError("written")

    __repr__ = __str__
    __iter__ = __len__
    __hash__ = __len__


class Errors(unittest.TestCase):
    def test_families(self):
        self.assertEqual(errors.LotError.__bases__, (ValueError,))
        for family, members in FAMILIES.items():
            self.assertEqual(getattr(errors, family).__bases__, (errors.LotError,))
            for name, _ in members:
                self.assertEqual(getattr(errors, name).__bases__, (getattr(errors, family),))

    def test_fields_are_the_very_objects(self):
        for name, fields in [member for members in FAMILIES.values() for member in members]:
            for thing in [*ODD, Picky(), object()]:
                things = [thing] * len(fields)
                by_name = getattr(errors, name)(**dict(zip(fields, things)))
                by_position = getattr(errors, name)(*things)
                for error in (by_name, by_position):
                    self.assertEqual(sorted(vars(error)), sorted(fields))
                    for field in fields:
                        self.assertIs(getattr(error, field), thing)

    def test_fields_in_their_order(self):
        for name, fields in [member for members in FAMILIES.values() for member in members]:
            things = [[k] for k in range(len(fields))]
            error = getattr(errors, name)(*things)
            self.assertEqual([getattr(error, field) for field in fields], things)

    def test_exactly_these_fields(self):
        for name, fields in [member for members in FAMILIES.values() for member in members]:
            for wrong in (fields[1:], (*fields, "more")):
                with self.assertRaises(TypeError):
                    getattr(errors, name)(*wrong)
            with self.assertRaises(TypeError):
                getattr(errors, name)(**{"other": 1})
