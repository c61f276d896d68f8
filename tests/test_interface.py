"""The interface: names, parameters, and where they are defined."""
import importlib
import inspect
import unittest

FUNCTIONS = {
    "kinds": ["is_number(thing)", "is_name(thing)", "is_place(thing)", "is_row(thing)", "is_finding(thing)"],
    "bookchecker": ["lets_book(thing)", "is_book(thing)"],
    "casechecker": ["lets_case(thing)", "is_case(thing)"],
    "bookparts": ["lots_of(book)", "came(book, lot)", "units_of(book, t)", "taken_from(book, t)", "given_to(book, t)",
                  "parts_of(book, t)", "units_in(book, place, t)", "queue_in(book, place, t)", "rest_of(book, s, t)",
                  "sales_outside(book)", "beginning(book, t)", "with_row(book, row)"],
    "cases": ["case_with_row(case, row)", "with_finding(case, finding)", "with_suspects(case, suspects)", "with_few(case, few)"],
    "booktexts": ["row_text(row)", "finding_text(finding)", "book_text(book)", "case_text(case)"],
    "bookreadings": ["row_read(text, *, line=0, field=0)", "finding_read(text, *, line=0, field=0)", "book_read(text)",
                     "case_read(text)"],
    "points": ["points_of(book)", "ways_of(case, lots)", "sums_of(case, lots, points)", "is_barrier(case, lots, points)"],
    "stories": ["lets_story(case, thing)", "is_story(case, thing)", "guilty_of(case, story)", "all_stories(case)"],
    "explaining": ["story_by(case, lots)", "barrier_by(case, lots)", "story_of(case)", "is_explained(case)",
                   "explain_paper(case, lots)"],
    "explainchecker": ["lets_explain(case, lots, thing)"],
}
CLASSES = {"errors": ["LotError", "PaperError", "CaseError", "HouseError", "TextError", "InvalidPaper", "NotUsable", "UnknownLot",
                      "NoStory", "InvalidEvent", "NothingToUndo", "InvalidText", "InvalidRow"],
           "bookobjects": ["Book", "Begun", "Case"]}
METHODS = {
    "Book": ["__init__(self, places, *rows)", "of(cls, book)", "read(cls, text)", "stocks(self)", "walk(self)"],
    "Begun": ["__init__(self, book, t)", "later(self)"],
    "Case": ["__init__(self, places, *rows, findings=(), suspects=(), few=0)", "of(cls, case)", "read(cls, text)",
             "blaming(self, *suspects)"],
}


class Interface(unittest.TestCase):
    def test_functions(self):
        for name, functions in FUNCTIONS.items():
            module = importlib.import_module("lotback." + name)
            for told in functions:
                function = getattr(module, told.split("(")[0])
                self.assertEqual(function.__module__, module.__name__)
                self.assertEqual(function.__name__ + str(inspect.signature(function)), told)

    def test_classes(self):
        for name, classes in CLASSES.items():
            module = importlib.import_module("lotback." + name)
            for told in classes:
                self.assertEqual(getattr(module, told).__module__, module.__name__)

    def test_methods(self):
        module = importlib.import_module("lotback.bookobjects")
        for name, methods in METHODS.items():
            listed = vars(getattr(module, name))
            for told in methods:
                method = listed[told.split("(")[0]]
                if isinstance(method, classmethod):
                    method = method.__func__
                self.assertEqual(method.__name__ + str(inspect.signature(method)), told)
        for name, properties in [("Book", ["form", "places", "rows"]), ("Begun", ["whole"]),
                                 ("Case", ["findings", "suspects", "few", "book"])]:
            for told in properties:
                self.assertIsInstance(vars(getattr(module, name))[told], property)
        self.assertIsInstance(vars(module.Book)["of"], classmethod)
        self.assertIsInstance(vars(module.Case)["read"], classmethod)
