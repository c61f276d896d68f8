"""The examples of the document, as they stand."""
import ast
import unittest

import lotback.errors

EXAMPLES = r"""
>>> ROWS = (('come', 'tank', 'ash', 4), ('come', 'tank', 'birch', 4), ('move', 'tank', 'line', 5), ('sell', 'tank', 2), ('come', 'line', 'cedar', 3), ('sell', 'line', 6))
>>> BOOK = ((('line', 'pipe'), ('tank', 'heap')), ROWS)
>>> CASE = (BOOK, (('bad', 5),), ('ash', 'cedar'), 1)
>>> from lotback.casechecker import lets_case
>>> lets_case((BOOK, (("bad", 5), ("clean", 5)), ("ash",), 1))
raises InvalidPaper(word='twice', at=1)
>>> from lotback.bookparts import parts_of, queue_in, rest_of, sales_outside, units_in
>>> [parts_of(BOOK, 5), parts_of(BOOK, 2), units_in(BOOK, "tank", 3), queue_in(BOOK, "line", 5), sales_outside(BOOK)]
[((2, 5), (4, 1)), ((None, 5),), 3, ((2, 5), (4, 3)), (3, 5)]
>>> [rest_of(BOOK, 4, 6), rest_of(BOOK, 2, 2), rest_of(BOOK, 0, 6)]
[2, 0, 0]
>>> from lotback.cases import with_finding
>>> with_finding(CASE, ("clean", 3))[1]
(('bad', 5), ('clean', 3))
>>> from lotback.booktexts import case_text
>>> case_text(((BOOK[0], BOOK[1][:1]), (), ("ash",), 1))
'place line pipe\nplace tank heap\ncome tank ash 4\nsuspects ash\nfew 1'
>>> from lotback.bookreadings import case_read, row_read
>>> row_read("move tank line 05", line=2, field=1)
raises InvalidText(line=2, field=4)
>>> case_read("place tank heap\nsuspects")
raises InvalidText(line=2, field=0)
>>> from lotback.bookobjects import Begun, Book, Case
>>> book = Book(BOOK[0]) + ROWS[0] + ROWS[1] + ROWS[2]
>>> [len(book), list(book.stocks()), book[2], book == Begun(Book.of(BOOK), 3), str(Begun(book, 0))]
[3, [('line', 5), ('tank', 3)], ('move', 'tank', 'line', 5), True, 'place line pipe\nplace tank heap']
>>> case = Case.of(CASE) + ("clean", 3)
>>> [case.findings, case.blaming("birch", "ash").suspects, case.book == Book.of(BOOK), case == Book.of(BOOK)]
[(('bad', 5), ('clean', 3)), ('ash', 'birch'), True, False]
>>> from lotback.points import points_of, sums_of, ways_of
>>> [len(points_of(BOOK)), points_of(BOOK)[3:5], len(ways_of(CASE, ("ash",))), ways_of(CASE, ("ash",))[-1]]
[16, (('heap', 'tank', 3), ('in', 0)), 22, (('out', 5), None, 0, 6)]
>>> sums_of(CASE, ("ash",), (("in", 5),))
(6, 0, 6, 1)
>>> sums_of(CASE, ("birch",), ())
raises NotUsable(word='lots', at=0)
>>> from lotback.stories import all_stories, lets_story
>>> lets_story(CASE, ((1,), (0,), (1,), (0,), (2,), (1, 0)))
raises InvalidPaper(word='few', at=-1)
>>> lets_story(CASE, ((2,), (0,), (1,), (0,), (0,), (1, 0)))
2
>>> lets_story(CASE, ((0,), (0,), (0,), (0,), (3,), (0, 0)))
raises InvalidPaper(word='rest', at=(5, 1))
>>> from lotback.explaining import is_explained, story_by
>>> PURE = (BOOK, (("bad", 5), ("clean", 2)), ("ash", "cedar"), 1)
>>> [story_by(PURE, ("ash",)), is_explained(PURE), is_explained(PURE[:2] + (("ash",), 1))]
[None, True, False]
>>> from lotback.explainchecker import lets_explain
>>> lets_explain(PURE, ("ash",), ("barrier", (("in", 4), ("in", 5), ("out", 2), ("out", 4))))
False
>>> from lotback.storyobjects import Story
>>> story = Story(CASE, ((2,), (0,), (1,), (0,), (0,), (1, 0)))
>>> [story.guilty, story.bad(5), story.left("tank", 6), story.left("tank", 2), story.outside(), list(story)[5]]
[('ash',), 1, 1, 2, 1, (1, 0)]
>>> from lotback.numbers import greatest_number, least_number, numbers_of
>>> [least_number(CASE, (5,), ("ash",)), greatest_number(CASE, (5,), ("ash",)), numbers_of(CASE, (5,)), numbers_of(CASE, (3,))]
[1, 4, (1, 2, 3, 4), (0, 1, 2)]
>>> from lotback.numberchecker import cover_worth, floor_worth
>>> [cover_worth(CASE, (5,), ("cedar",), (("in", 4), ("in", 5), ("out", 4), ("out", 5))), floor_worth(CASE, (5,), ("ash",), (("out", 5),))]
[8, 1]
>>> cover_worth(CASE, (5,), ("ash",), (("in", 5),))
raises InvalidPaper(word='sale', at=5)
>>> from lotback.numberobjects import Numbers
>>> numbers = Numbers(CASE, (5,))
>>> [list(numbers), len(numbers), 0 in numbers, numbers.greatest, list(Numbers(CASE, (5,), lots=("cedar",)))]
[[1, 2, 3, 4], 4, False, 4, [1]]
>>> from lotback.guilt import can_be_bad, cleared, guilty_sets, least_guilty, surely_bad
>>> [guilty_sets(CASE), least_guilty(CASE), surely_bad(CASE), can_be_bad(CASE), cleared(CASE)]
[(('ash',), ('cedar',)), (('ash',), ('cedar',)), (), ('ash', 'cedar'), ('birch',)]
>>> from lotback.disputes import least_clashes, least_drops
>>> TWO = (BOOK, (("bad", 3), ("bad", 4), ("clean", 2)), ("ash", "cedar"), 1)
>>> [least_clashes(TWO), least_drops(TWO)]
[((('bad', 3), ('bad', 4)),), ((('bad', 3),), (('bad', 4),))]
>>> from lotback.shieldchecker import lets_shield
>>> from lotback.shields import worst_number
>>> [worst_number(CASE, (3, 5)), worst_number(CASE, (3,))]
[4, 2]
>>> SHIELD = (("cover", (("out", 3),)), ("cover", (("out", 3),)))
>>> lets_shield(CASE, (3,), 2, SHIELD)
2
>>> lets_shield(CASE, (3,), 1, SHIELD)
raises InvalidPaper(word='points', at=0)
>>> from lotback.backchecker import lets_back
>>> from lotback.backs import back_sets, fewest_back
>>> [back_sets(CASE, 0), back_sets(CASE, 2), fewest_back(CASE, 2), back_sets(CASE, 4)]
[((3, 5),), ((5,),), 6, ((),)]
>>> BAD = ((4,), (0,), (4,), (0,), (0,), (4, 0))
>>> lets_back(CASE, 2, ((5,), SHIELD, (BAD, ((5, ()),))))
6
>>> from lotback.lookchecker import lets_looks
>>> from lotback.looks import fewest_looks, settled_as
>>> [settled_as(CASE, (3,)), settled_as(CASE, (5,)), fewest_looks(CASE, (3,), (2,)), fewest_looks(CASE, (3,), (2, 3))]
[None, 'bad', None, 1]
>>> ONE, TWO = ((1,), (0,), (1,), (0,), (0,), (1, 0)), ((4,), (0,), (2,), (2,), (0,), (2, 0))
>>> lets_looks(CASE, (3,), (2,), (None, (ONE, TWO, ((2, "bad", (ONE, TWO, ())),)))) is None
True
>>> from lotback.inquiries import Inquiry
>>> inquiry = Inquiry(CASE, (3,), (2, 3))
>>> [inquiry.next_look(), inquiry.needed(), inquiry.tell("clean"), inquiry.outcome(), list(inquiry), inquiry.back(), inquiry.outcome()]
[3, 1, None, 'clean', [('clean', 3)], True, None]
>>> from lotback.orders import fills, safest
>>> [list(fills(CASE, ("line", "tank"), 2)), safest(CASE, ("line", "tank"), 2), safest(CASE, ("line",), 2)]
[[(1, 1), (2, 0)], (1, ((1, 1),)), (2, ((2,),))]
>>> from lotback.houses import House
>>> house = House((('line', 'pipe'), ('tank', 'heap')))
>>> [house.do_all(*ROWS[:4]), house.suspect('ash'), house.suspect('cedar'), house.set_few(1), house.risk('line', 5)]
[4, ((), ()), ((), ()), ((), ('ash',)), 4]
>>> [house.do_all(*ROWS[4:]), house.find('bad', 5), house.sure(), house.possible(), house.outside(), house.barred(('clear', 'cedar'))]
[2, ((), ('ash', 'cedar')), (), ('ash', 'cedar'), (3, 5), None]
>>> [house.clear('cedar'), house.table()[3:]]
[(('ash',), ('ash',)), [' 3 sell    2 -     0..2', ' 4 come    3 -     -', ' 5 sell    6 bad   1..4']]
>>> from lotback.houselines import event_line, house_line
>>> from lotback.houseread import read_event
>>> [event_line(('find', 'bad', 5)), house_line((('tank', 'heap'),), careful=True), read_event('back 3 tank')]
['find bad 5', 'house careful tank heap', ('back', 3, 'tank')]
>>> from lotback.desk import Desk
>>> desk = Desk()
>>> [desk.say('house plain tank heap'), desk.say('come tank ash 4'), desk.say('suspect ash'), desk.say('few 1'), desk.say('risk tank 3')]
['ok', '0', '- -', '- ash', '3']
"""


def steps_of(text):
    """The pairs (source, what is told, or None)."""
    steps = []
    for line in text.strip().split("\n"):
        if line.startswith(">>> "):
            steps.append([line[4:], None])
        else:
            steps[-1][1] = line
    return steps


class Examples(unittest.TestCase):
    def test_all(self):
        names = {}
        for source, told in steps_of(EXAMPLES):
            with self.subTest(source):
                if told is None:
                    exec(source, names)
                elif told.startswith("raises "):
                    self.raising(source, names, ast.parse(told[len("raises "):], mode="eval").body)
                else:
                    self.assertEqual(repr(eval(source, names)), told)

    def raising(self, source, names, call):
        wanted = {part.arg: ast.literal_eval(part.value) for part in call.keywords}
        with self.assertRaises(lotback.errors.LotError) as caught:
            eval(source, names)
        self.assertEqual(type(caught.exception).__name__, call.func.id)
        self.assertEqual(repr(vars(caught.exception)), repr(wanted))
