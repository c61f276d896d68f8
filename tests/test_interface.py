"""The interface: names, parameters, and where they are defined."""
import importlib
import inspect
import unittest

FUNCTIONS = {
    "kinds": ["is_number(thing)", "is_name(thing)", "is_place(thing)", "is_row(thing)", "is_finding(thing)"],
    "bookchecker": ["lets_book(thing)", "is_book(thing)"],
    "casechecker": ["lets_case(thing)", "is_case(thing)"],
    "bookparts": ["lots_of(book)", "came(book, lot)", "units_of(book, t)", "taken_from(book, t)", "given_to(book, t)",
                  "parts_of(book, t)", "units_in(book, place, t)", "queue_in(book, place, t)", "rest_of(book, s, t)",
                  "sales_outside(book)", "beginning(book, t)", "with_row(book, row)"],
    "cases": ["case_with_row(case, row)", "with_finding(case, finding)", "with_suspects(case, suspects)", "with_few(case, few)"],
    "booktexts": ["row_text(row)", "finding_text(finding)", "book_text(book)", "case_text(case)"],
    "bookreadings": ["row_read(text, *, line=0, field=0)", "finding_read(text, *, line=0, field=0)", "book_read(text)",
                     "case_read(text)"],
    "points": ["points_of(book)", "ways_of(case, lots)", "sums_of(case, lots, points)", "is_barrier(case, lots, points)"],
    "stories": ["lets_story(case, thing)", "is_story(case, thing)", "guilty_of(case, story)", "all_stories(case)"],
    "explaining": ["story_by(case, lots)", "barrier_by(case, lots)", "story_of(case)", "is_explained(case)",
                   "explain_paper(case, lots)"],
    "explainchecker": ["lets_explain(case, lots, thing)"],
    "numbers": ["least_number(case, sales, lots)", "greatest_number(case, sales, lots)", "numbers_of(case, sales)",
                "story_with(case, sales, lots, number)"],
    "numberpapers": ["number_paper(case, sales, lots, word)"],
    "numberchecker": ["cover_worth(case, sales, lots, thing)", "floor_worth(case, sales, lots, thing)",
                      "lets_number(case, sales, lots, thing)"],
    "guilt": ["guilty_sets(case)", "least_guilty(case)", "surely_bad(case)", "can_be_bad(case)", "cleared(case)"],
    "guiltpapers": ["guilt_paper(case)"],
    "guiltchecker": ["lets_guilt(case, thing)"],
    "disputes": ["least_clashes(case)", "least_drops(case)"],
    "disputepapers": ["dispute_paper(case)"],
    "disputechecker": ["lets_dispute(case, thing)"],
    "shields": ["worst_number(case, sales)", "shield_of(case, sales, number)", "base_of(case, sales, number)"],
    "shieldchecker": ["lets_shield(case, sales, number, thing)", "lets_base(case, sales, number, thing)"],
    "backs": ["back_sets(case, left)", "fewest_back(case, left)", "back_paper(case, left)"],
    "backchecker": ["lets_back(case, left, thing)"],
    "looks": ["settled_as(case, sales)", "fewest_looks(case, sales, parcels)", "look_plan(case, sales, parcels)",
              "looks_paper(case, sales, parcels)"],
    "lookchecker": ["lets_look_plan(case, sales, parcels, thing)", "lets_limit(case, sales, parcels, thing)",
                    "lets_looks(case, sales, parcels, thing)"],
    "orders": ["fills(case, places, units)", "filled(case, places, fill)", "safest(case, places, units)",
               "order_paper(case, places, units)"],
    "orderchecker": ["lets_order(case, places, units, thing)"],
    "houseevents": ["is_event(thing)"],
    "replaying": ["is_log(thing)", "replayed(log)"],
    "houselines": ["event_line(event)", "house_line(places, *, careful=False)", "log_lines(log)"],
    "houseread": ["read_event(text, *, line=0)", "read_log(lines)"],
}
CLASSES = {"errors": ["LotError", "PaperError", "CaseError", "HouseError", "TextError", "InvalidPaper", "NotUsable", "UnknownLot",
                      "NoStory", "InvalidEvent", "NothingToUndo", "InvalidText", "InvalidRow"],
           "bookobjects": ["Book", "Begun", "Case"], "storyobjects": ["Story"], "numberobjects": ["Numbers"],
           "inquiries": ["Inquiry"], "houses": ["House"], "desk": ["Desk"]}
# Of each module the methods that are listed for its classes.
METHODS = {"bookobjects": {
    "Book": ["__init__(self, places, *rows)", "of(cls, book)", "read(cls, text)", "stocks(self)", "walk(self)"],
    "Begun": ["__init__(self, book, t)", "later(self)"],
    "Case": ["__init__(self, places, *rows, findings=(), suspects=(), few=0)", "of(cls, case)", "read(cls, text)",
             "blaming(self, *suspects)"],
}, "storyobjects": {
    "Story": ["__init__(self, case, story)", "by(cls, case, lots)", "bad(self, t)", "left(self, place, t)",
              "outside(self, *, wasted=True)", "__eq__(self, other)", "__len__(self)", "__iter__(self)"],
}, "numberobjects": {
    "Numbers": ["__init__(self, case, sales, *, lots=None)", "with_number(self, number)", "__len__(self)", "__contains__(self, x)",
                "__iter__(self)", "__eq__(self, other)"],
}, "inquiries": {
    "Inquiry": ["__init__(self, case, sales, parcels)", "next_look(self)", "outcome(self)", "needed(self)", "tell(self, word)",
                "back(self)", "__len__(self)", "__iter__(self)"],
}, "houses": {
    "House": ["__init__(self, places, *, careful=False)", "read(cls, text)", "__iter__(self)", "__len__(self)", "__contains__(self, x)",
              "__eq__(self, other)", "__str__(self)", "__call__(self, event)", "go(self, event)", "come(self, place, lot, n)",
              "move(self, one, other, n)", "sell(self, place, n)", "waste(self, place, n)", "back(self, s, place)", "find(self, word, t)",
              "suspect(self, lot)", "clear(self, lot)", "set_few(self, n)", "barred(self, event)", "sure(self)", "possible(self)",
              "cleared(self)", "outside(self)", "units(self, place)", "risk(self, place, n)", "any_story(self)", "numbers(self, sales)",
              "back_sets(self, left)", "fewest_back(self, left)", "fewest_looks(self, sales, parcels)", "fills(self, places, n)",
              "safest(self, places, n)", "do_all(self, *events, keep=False)", "tried(self, *events)", "undo(self)", "log(self)",
              "counts(self)", "table(self)"],
}, "desk": {
    "Desk": ["__init__(self)", "say(self, row)", "counts(self)"],
}}
PROPERTIES = {
    "bookobjects": {"Book": ["form", "places", "rows"], "Begun": ["whole"], "Case": ["findings", "suspects", "few", "book"]},
    "storyobjects": {"Story": ["story", "guilty", "came"]},
    "numberobjects": {"Numbers": ["least", "greatest"]},
    "inquiries": {"Inquiry": ["present"]},
    "houses": {"House": ["case", "careful"]},
}
CLASS_METHODS = {"bookobjects": {"Book": ["of", "read"], "Case": ["of", "read"]}, "storyobjects": {"Story": ["by"]},
                 "houses": {"House": ["read"]}}


class Interface(unittest.TestCase):
    def test_functions(self):
        for name, functions in FUNCTIONS.items():
            module = importlib.import_module("lotback." + name)
            for told in functions:
                function = getattr(module, told.split("(")[0])
                self.assertEqual(function.__module__, module.__name__)
                self.assertEqual(function.__name__ + str(inspect.signature(function)), told)

    def test_classes(self):
        for name, classes in CLASSES.items():
            module = importlib.import_module("lotback." + name)
            for told in classes:
                self.assertEqual(getattr(module, told).__module__, module.__name__)

    def each_listed(self, table):
        """All pairs (what the class itself has, told), also of what is told with parameters."""
        for name, classes in table.items():
            module = importlib.import_module("lotback." + name)
            for cls, listed in classes.items():
                for told in listed:
                    yield vars(getattr(module, cls))[told.split("(")[0]], told

    def test_methods(self):
        for method, told in self.each_listed(METHODS):
            if isinstance(method, classmethod):
                method = method.__func__
            self.assertEqual(method.__name__ + str(inspect.signature(method)), told)

    def test_properties_and_class_methods(self):
        for thing, told in self.each_listed(PROPERTIES):
            self.assertIsInstance(thing, property, told)
        for thing, told in self.each_listed(CLASS_METHODS):
            self.assertIsInstance(thing, classmethod, told)
