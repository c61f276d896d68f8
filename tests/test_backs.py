"""[46], [48], [49], [8] (B5): calling sales back, back papers and their checker."""
import itertools

from lotback.backchecker import lets_back
from lotback.backs import back_paper, back_sets, fewest_back
from lotback.errors import InvalidPaper, NoStory, NotUsable
from lotback.explaining import is_explained
from lotback.shieldchecker import lets_shield
from lotback.shields import shield_of, worst_number
from lotback.stories import lets_story
from tests.common import BARRED, BOOK, CASE, MANY, ODD, PURE, Exact, with_changes
from tests.model import (LOTS, model_stories, number_by_model, random_book, random_case, sales_by_model, subsets)

COVER = ("cover", (("out", 3),))
SHIELD = (COVER, COVER)
BAD = ((4,), (0,), (4,), (0,), (0,), (4, 0))
EXAMPLE = ((5,), SHIELD, (BAD, ((5, ()),)))


def units_of_sales(case, sales):
    return sum(case[0][1][t][2] for t in sales)


def model_back(case, worst_of, left):
    """The pair of the fewest units and the tuple of all sets that are enough, by the worst numbers of all sets."""
    sales = sales_by_model(case[0])
    enough = [some for some in subsets(sales) if worst_of(tuple(t for t in sales if t not in some)) <= left]
    fewest = min(units_of_sales(case, some) for some in enough)
    return fewest, tuple(some for some in enough if units_of_sales(case, some) == fewest)


def many_sales(seed, rows, most, places=None):
    """A case with several sales outside."""
    for k in itertools.count(seed * 1000):
        case = random_case(k, rows, most, places, findings=2)
        case = (*case[:2], tuple(LOTS[:4]), 1 + seed % 3)
        if 3 <= len(sales_by_model(case[0])) <= 6 and is_explained(case):
            return case


class Backs(Exact):
    def confirmed(self, case, left, fewest, sets):
        self.told(sets, back_sets, case, left)
        self.told(fewest, fewest_back, case, left)
        paper = back_paper(case, left)
        self.told(paper, back_paper, case, left)
        self.told(fewest, lets_back, case, left, paper)
        self.assertIn(paper[0], sets)
        self.node(case, left, paper[2], paper[0], ())

    def node(self, case, left, tree, called, way):
        """Each node of a tree is what the document says."""
        others = [t for t in sales_by_model(case[0]) if t not in way]
        if tree == ():
            self.assertGreaterEqual(units_of_sales(case, way), units_of_sales(case, called))
        else:
            lets_story(case, tree[0])
            self.assertGreater(number_by_model(tree[0], others), left)
            self.exactly([t for t, _ in tree[1]], [t for t in others if sum(tree[0][t]) > 0])
            for t, branch in tree[1]:
                self.node(case, left, branch, called, (*way, t))

    def test_all_stories(self):
        sizes = set()
        for seed in range(80):
            case = random_case(seed, 3 + seed % 6, 2, findings=2)
            case = (*case[:2], case[2], max(1, case[3]))
            stories = model_stories(case)
            worst = {some: max((number_by_model(story, some) for story in stories), default=None) for some in subsets(sales_by_model(case[0]))}
            top = worst[sales_by_model(case[0])]
            for left in range(4 if top is None else top + 2):
                if stories:
                    fewest, sets = model_back(case, worst.get, left)
                    self.confirmed(case, left, fewest, sets)
                    sizes.add((len(sets), len(sets[0])))
                else:
                    for call in (back_sets, fewest_back, back_paper):
                        self.raising(NoStory(case[2]), call, case, left)
        self.assertLessEqual({(1, 0), (1, 1), (1, 2), (2, 1)}, sizes)

    def test_many_sales(self):
        sizes = set()
        for seed in range(12):
            case = many_sales(seed, 9, 2)
            stories = model_stories(case)
            worst = {some: max(number_by_model(story, some) for story in stories) for some in subsets(sales_by_model(case[0]))}
            for left in range(worst[sales_by_model(case[0])] + 2):
                fewest, sets = model_back(case, worst.get, left)
                self.confirmed(case, left, fewest, sets)
                sizes.add((len(sets), len(sets[0])))
        self.assertTrue(any(many > 1 and size > 1 for many, size in sizes), sizes)

    def test_larger_books(self):
        """By the worst numbers of all sets, with six sales of up to twenty units."""
        for seed in range(12):
            case = many_sales(seed + 40, 16, 20, [("rack", "pipe"), ("tank", "heap")])
            case = (*case[:2], tuple(LOTS), 3)
            if is_explained(case):
                worst = {some: worst_number(case, some) for some in subsets(sales_by_model(case[0]))}
                top = worst[sales_by_model(case[0])]
                for left in sorted({0, 1, 2, top // 3, top // 2, max(0, top - 1), top, top + 1, 10 ** 60}):
                    fewest, sets = model_back(case, worst.get, left)
                    self.confirmed(case, left, fewest, sets)

    def test_beyond_the_limits(self):
        big = 10 ** 59
        rows = [("come", "tank", "ash", big), ("come", "tank", "birch", big), *[("sell", "tank", big // 10 - k) for k in range(8)]]
        case = (((("tank", "heap"),), tuple(rows)), (), ("ash", "birch"), 1)
        for left in (0, big // 2, 8 * big // 10 - 29, 8 * big // 10 - 28):
            fewest = fewest_back(case, left)
            self.exactly(lets_back(case, left, back_paper(case, left)), fewest)
        self.exactly(back_sets(case, 8 * big // 10 - 29), ((9,),))

    def test_the_example(self):
        for left, sets, fewest in [(0, ((3, 5),), 8), (2, ((5,),), 6), (4, ((),), 0), (3, ((5,),), 6), (10 ** 60, ((),), 0)]:
            self.confirmed(CASE, left, fewest, sets)
            self.told(sets, back_sets, case=CASE, left=left)
            self.told(fewest, fewest_back, case=CASE, left=left)
            self.exactly(lets_back(case=CASE, left=left, thing=back_paper(case=CASE, left=left)), fewest)
        self.told(6, lets_back, CASE, 2, EXAMPLE)

    def test_several_sets_with_the_fewest_units(self):
        rows = (("come", "tank", "ash", 4), ("sell", "tank", 2), ("sell", "tank", 1), ("sell", "tank", 1))
        case = (((("tank", "heap"),), rows), (), ("ash",), 1)
        for left, fewest, sets in [(4, 0, ((),)), (3, 1, ((2,), (3,))), (2, 2, ((1,), (2, 3))), (1, 3, ((1, 2), (1, 3))), (0, 4, ((1, 2, 3),))]:
            self.confirmed(case, left, fewest, sets)

    def test_no_sale_outside(self):
        case = (BOOK[:1] + (BOOK[1][:3],), (), ("ash",), 1)
        self.confirmed(case, 0, 0, ((),))
        nothing = (((("tank", "heap"),), ()), (), (), 0)
        self.confirmed(nothing, 0, 0, ((),))
        self.exactly(back_paper(nothing, 0), ((), (("cover", ()),), ()))

    def test_greater_left(self):
        """[57]: with a greater left no more units are called back."""
        for seed in range(10):
            case = many_sales(seed + 70, 14, 9)
            told = [fewest_back(case, left) for left in range(12)]
            self.exactly(told, sorted(told, reverse=True))

    def test_no_story(self):
        case = (*PURE[:2], ("ash", "elm"), 1)
        for call in (back_sets, fewest_back, back_paper):
            self.raising(NoStory(("ash", "elm")), call, case, 0)
            self.raising(NoStory(("ash", "elm")), call, case=case, left=3)
            self.raising(NoStory(()), call, BARRED, 0)
        # The checker raises no NoStory: nothing has to be called back.
        shield = shield_of(case, (3, 5), 0)
        self.told(0, lets_back, case, 0, ((), shield, ()))
        self.raising(InvalidPaper("few", 0), lets_back, case, 0, ((5,), shield_of(case, (3,), 0), ()))
        self.raising(InvalidPaper("shield", -1), lets_back, case, 0, ((), SHIELD, ()))

    def test_wrong_left(self):
        for call in (back_sets, fewest_back, back_paper):
            self.wrong_left(call)
            self.raising(NotUsable("left", -1), call, case=CASE, left="2")
        self.wrong_left(lets_back, EXAMPLE)
        self.wrong_left(lets_back, None)


class Checker(Exact):
    def refused(self, word, at, thing, left=2, case=CASE):
        self.raising(InvalidPaper(word, at), lets_back, case, left, thing)
        self.raising(InvalidPaper(word, at), lets_back, case=case, left=left, thing=thing)

    def test_accepted(self):
        self.told(6, lets_back, CASE, 3, EXAMPLE)
        self.told(0, lets_back, CASE, 4, ((), shield_of(CASE, (3, 5), 4), ()))
        self.told(0, lets_back, CASE, 9, ((), shield_of(CASE, (3, 5), 4), ()))

    def test_goes_on_behind_enough_units(self):
        rows = (("come", "tank", "ash", 4), ("sell", "tank", 2), ("sell", "tank", 1), ("sell", "tank", 1))
        case = (((("tank", "heap"),), rows), (), ("ash",), 1)
        one, two = ((3,), (2,), (1,), (0,)), ((2,), (0,), (1,), (1,))
        shield = shield_of(case, (2, 3), 2)
        tree = (one, ((1, ()), (2, (((4,), (2,), (1,), (1,)), ((1, ()), (3, ()))))))
        self.told(2, lets_back, case, 2, ((1,), shield, tree))
        self.raising(InvalidPaper("shield", -1), lets_back, case, 1, ((1,), shield, tree))
        deeper = (one, ((1, (two, ((2, ()), (3, ())))), (2, tree[1][1][1])))
        self.raising(InvalidPaper("story", 1), lets_back, case, 2, ((1,), shield, deeper))

    def test_shape(self):
        for thing in [*[odd for odd in ODD if odd != ((), (), ())], list(EXAMPLE), EXAMPLE[:2], (*EXAMPLE, ()), ([5], *EXAMPLE[1:]), (5, *EXAMPLE[1:]), (None, None, None), "abc", ()]:
            self.refused("shape", -1, thing)

    def test_called(self):
        _, shield, tree = EXAMPLE
        for called in [(None,), (True,), (2,), (6,), (-1,), ("5",), ((5,),), ([5],), (5, 3), (5, 5), (3, 5, 5), (5, None)]:
            self.refused("called", -1, (called, shield, tree))
            self.refused("called", -1, (called, None, None))
        # True is not the sale 1.
        case = (((("tank", "heap"),), (("come", "tank", "ash", 2), ("sell", "tank", 1))), (), ("ash",), 1)
        paper = back_paper(case, 0)
        self.exactly(paper[0], (1,))
        self.refused("called", -1, ((True,), *paper[1:]), 0, case)

    def test_shield(self):
        called, _, tree = EXAMPLE
        for shield in [*ODD, (), (COVER,), (COVER,) * 3, (COVER, ("cover", ())), (("floor", ()), COVER), (COVER, ("barrier", ()))]:
            self.refused("shield", -1, (called, shield, tree))
            self.refused("shield", -1, (called, shield, None))
        self.refused("shield", -1, EXAMPLE, 1)
        self.refused("shield", -1, EXAMPLE, 0)
        # It is one of the other sales.
        self.refused("shield", -1, ((3,), SHIELD, tree))
        self.refused("shield", -1, ((), SHIELD, ()))

    def test_tree_shape(self):
        for tree in [*[odd for odd in ODD if odd != ()], [], [BAD, ()], (BAD,), (BAD, (), ()), (BAD, None), (BAD, []), (BAD, ((5, ()), None)), (BAD, ((5,),)),
                     (BAD, ([5, ()],)), (BAD, ((5, (), ()),)), (None, None), (BAD, "ab"), (None, ((),)), 0, False, "()"]:
            self.refused("shape", 0, (*EXAMPLE[:2], tree))
            self.refused("shape", 1, (*EXAMPLE[:2], (BAD, ((5, tree),))))

    def test_few(self):
        self.refused("few", 0, (*EXAMPLE[:2], ()))
        self.refused("few", 1, ((3, 5), (("cover", ()), ("cover", ())), EXAMPLE[2]))
        # Sale 3 on the way has two units, sale 5 that is called has six.
        story = ((3,), (0,), (1,), (2,), (0,), (1, 0))
        self.refused("few", 1, (*EXAMPLE[:2], (story, ((3, ()), (5, ())))))
        self.refused("few", 1, (*EXAMPLE[:2], (story, ((3, ()), (5, None)))))
        self.told(6, lets_back, CASE, 2, (*EXAMPLE[:2], (story, ((3, (BAD, ((5, ()),))), (5, ())))))

    def test_few_by_one_unit(self):
        rows = (("come", "tank", "ash", 4), ("sell", "tank", 2), ("sell", "tank", 1), ("sell", "tank", 1))
        case = (((("tank", "heap"),), rows), (), ("ash",), 1)
        shield = shield_of(case, (1, 3), 3)
        self.refused("few", 0, ((2,), shield, ()), 3, case)
        every = ((4,), (2,), (1,), (1,))
        self.told(1, lets_back, case, 3, ((2,), shield, (every, ((1, ()), (2, ()), (3, ())))))
        # Two units are lacking; each of sales 2 and 3 on the way has one.
        shield = shield_of(case, (2, 3), 2)
        self.refused("few", 2, ((1,), shield, (every, ((1, ()), (2, ()), (3, ())))), 2, case)

    def test_story(self):
        for story in [*ODD, None, (), BAD[:5], [BAD], ((0,), (0,), (0,), (0,), (1,), (0, 1)), ((1,), (0,), (1,), (0,), (0,), (1, 0)), ((4,), (0,), (4,), (0,), (0,), (5, 0))]:
            self.refused("story", 0, (*EXAMPLE[:2], (story, ((5, ()),))))
            # Ahead of its branches, and of what is in them.
            self.refused("story", 0, (*EXAMPLE[:2], (story, ())))
            self.refused("story", 0, (*EXAMPLE[:2], (story, ((None, None),))))
            self.refused("story", 1, (*EXAMPLE[:2], (BAD, ((5, (story, ())),))))
        self.told(6, lets_back, CASE, 3, EXAMPLE)
        self.refused("story", 0, ((), shield_of(CASE, (3, 5), 4), EXAMPLE[2]), 4)
        # Its bad units in sales on the way do not count.
        self.refused("story", 1, (*EXAMPLE[:2], (BAD, ((5, (BAD, ())),))))

    def test_branches(self):
        for branches in [(), ((3, ()),), ((3, ()), (5, ())), ((5, ()), (5, ())), ((None, ()),), (("5", ()),), (((5,), ()),), ((6, None),)]:
            self.refused("branches", 0, (*EXAMPLE[:2], (BAD, branches)))
        story = ((3,), (0,), (1,), (2,), (0,), (1, 0))
        self.refused("branches", 0, (*EXAMPLE[:2], (story, ((5, ()), (3, (BAD, ((5, ()),)))))))
        self.refused("branches", 0, (*EXAMPLE[:2], (story, ((3, None), (4, None)))))
        case = (((("tank", "heap"),), (("come", "tank", "ash", 2), ("sell", "tank", 1))), (), ("ash",), 1)
        called, shield, (story, _) = back_paper(case, 0)
        self.refused("branches", 0, (called, shield, (story, ((True, ()),))), 0, case)
        self.told(1, lets_back, case, 0, (called, shield, (story, ((1, ()),))))

    def test_numbering(self):
        """A node ahead of its branches, one branch with all in it after the other."""
        rows = (("come", "tank", "ash", 9), *[("sell", "tank", 3)] * 3)
        case = (((("tank", "heap"),), rows), (), ("ash",), 1)
        shield = shield_of(case, (), 0)
        one = [((1,), *[(int(k == t),) for k in (1, 2, 3)]) for t in (1, 2, 3)]
        both = [((2,), *[(int(k != t),) for k in (1, 2, 3)]) for t in (1, 2, 3)]

        def tree(*leaves):
            # Nodes: 0; 1 (2 on the way), 2, 3 (1, 2 and 3 on the way ..); 4 (3 on the way), 5, 6.
            return (both[0], ((2, (both[1], ((1, (one[2], ((3, leaves[0]),))), (3, (one[0], ((1, leaves[1]),)))))),
                              (3, (both[2], ((1, (one[1], ((2, leaves[2]),))), (2, (one[0], ((1, leaves[3]),))))))))
        paper = ((1, 2, 3), shield, tree((), (), (), ()))
        self.told(9, lets_back, case, 0, paper)
        for k, n in enumerate((3, 5, 8, 10)):
            leaves = [()] * 4
            leaves[k] = None
            self.refused("shape", n, (*paper[:2], tree(*leaves)), 0, case)
            # The first of several.
            self.refused("shape", n, (*paper[:2], tree(*leaves[:k + 1], *[None] * (3 - k))), 0, case)
            leaves[k] = (both[0], ())
            self.refused("story", n, (*paper[:2], tree(*leaves)), 0, case)
        whole = paper[2]
        self.refused("story", 6, (*paper[:2], (whole[0], (whole[1][0], (3, (one[2], ()))))), 0, case)
        self.refused("branches", 6, (*paper[:2], (whole[0], (whole[1][0], (3, (both[2], ((1, None),)))))), 0, case)
        self.refused("few", 6, (*paper[:2], (whole[0], (whole[1][0], (3, ())))), 0, case)
        self.refused("few", 1, (*paper[:2], (whole[0], ((2, ()), (3, None)))), 0, case)

    def test_one_thing_changed(self):
        """What is accepted is true: with one thing changed at any depth, for other numbers left."""
        accepted = refused = 0
        for seed in range(12):
            case = many_sales(seed, 8, 2)
            top = worst_number(case, sales_by_model(case[0]))
            fewest = [fewest_back(case, left) for left in range(top + 2)]
            for left in range(top + 1):
                paper = back_paper(case, left)
                others = [back_paper(case, other) for other in range(top + 1)]
                for thing in itertools.chain(others, itertools.islice(with_changes(paper), 0, None, 7)):
                    try:
                        self.exactly(lets_back(case, left, thing), fewest[left])
                        accepted += 1
                    except InvalidPaper:
                        refused += 1
        self.assertGreater(accepted, 40)
        self.assertGreater(refused, 400)
