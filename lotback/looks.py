"""The fewest looks at parcels that surely settle whether a bad unit is in some sales."""
from lotback.askable import check_explained, check_looks_asked
from lotback.cases import with_answers
from lotback.numberflows import bounds_by
from lotback.outlooks import Outlook, answers_told, nothing_told, untold, with_word
from lotback.shields import base_of, shield_of
from lotback.subsets import telling_sets
from lotback.usable import check_sales


def settled_as(case, sales):
    """Tell "clean" if no story has a bad unit in these sales, "bad" if each has one; otherwise None."""
    check_sales(case, sales)
    check_explained(case)
    least, greatest = bounds_by(case, sales, telling_sets(case))
    if greatest == 0:
        return "clean"
    return "bad" if least > 0 else None


def fewest_looks(case, sales, parcels):
    """The fewest looks of a look plan; None if there is none."""
    check_looks_asked(case, sales, parcels)
    return Outlook(case, sales, parcels).fewest(nothing_told(parcels))


def plan_behind(case, sales, parcels, outlook, told):
    """A look plan with the fewest looks behind what was told."""
    word = outlook.settled(told)
    if word is None:
        k = outlook.best_look(told)
        plan = plan_behind(case, sales, parcels, outlook, with_word(told, k, "bad"))
        other = plan_behind(case, sales, parcels, outlook, with_word(told, k, "clean"))
        return ("look", parcels[k], plan, other)
    present = with_answers(case, answers_told(parcels, told))
    if word == "clean":
        return ("clean", shield_of(present, sales, 0))
    return ("bad", base_of(present, sales, 1))


def limit_behind(parcels, outlook, told, looks):
    """A limit tree that shows that so many looks are needed behind what was told; None: that none are enough."""
    if looks == 0:
        return ()
    branches = []
    if looks != 1:
        for k in untold(told):
            word = outlook.longer_answer(told, k)
            fewer = None if looks is None else looks - 1
            branches.append((parcels[k], word, limit_behind(parcels, outlook, with_word(told, k, word), fewer)))
    return outlook.witness(told, "clean"), outlook.witness(told, "bad"), tuple(branches)


def plan_told(case, sales, parcels, outlook):
    """A look plan with the fewest looks, or None."""
    told = nothing_told(parcels)
    if outlook.fewest(told) is None:
        return None
    return plan_behind(case, sales, parcels, outlook, told)


def look_plan(case, sales, parcels):
    """Any look plan with the fewest looks, or None."""
    check_looks_asked(case, sales, parcels)
    return plan_told(case, sales, parcels, Outlook(case, sales, parcels))


def looks_paper(case, sales, parcels):
    """Any looks paper."""
    check_looks_asked(case, sales, parcels)
    outlook = Outlook(case, sales, parcels)
    told = nothing_told(parcels)
    tree = limit_behind(parcels, outlook, told, outlook.fewest(told))
    return plan_told(case, sales, parcels, outlook), tree
