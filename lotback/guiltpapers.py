"""Guilt papers: a story for each least set of suspects, and barriers for all sets that have none within."""
from lotback.explaining import barrier_by, story_by
from lotback.guilt import least_guilty
from lotback.subsets import has_within, sets_up_to, without


def is_greatest(case, least, lots):
    """Whether by each set with one suspect more, if it may have one more, there is a story."""
    if len(lots) == case[3]:
        return True
    return all([has_within(least, (*lots, lot)) for lot in without(case[2], lots)])


def guilt_paper(case):
    """Any guilt paper."""
    least = least_guilty(case)
    told = [(lots, story_by(case, lots)) for lots in least]
    barred = [lots for lots in sets_up_to(case[2], case[3]) if not has_within(least, lots)]
    greatest = [lots for lots in barred if is_greatest(case, least, lots)]
    return tuple(told), tuple([(lots, barrier_by(case, lots)) for lots in greatest])
