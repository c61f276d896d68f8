"""Which findings contradict each other, and which have to be dropped."""
from lotback.cases import with_findings_alone
from lotback.explaining import story_of
from lotback.subsets import by_size, has_within, is_within, meets, sets_up_to


def findings_held(case, story):
    """The set of the findings of a case that are true by the numbers of a story."""
    return tuple([(word, t) for word, t in case[1] if (word == "bad") == (sum(story[t]) > 0)])


def least_clashes(case):
    """The ascending tuple of the least sets of findings by which alone the case is not explained."""
    clashes = []
    held = []
    for some in by_size(sets_up_to(case[1], len(case[1]))):
        explained = any([is_within(some, others) for others in held])
        if not explained and not has_within(clashes, some):
            story = story_of(with_findings_alone(case, some))
            if story is None:
                clashes.append(some)
            else:
                # No set of what is true by this story is a clash.
                held.append(findings_held(case, story))
    return tuple(sorted(clashes))


def least_drops(case):
    """The ascending tuple of the least sets of findings without which the case is explained."""
    clashes = least_clashes(case)
    drops = []
    for some in by_size(sets_up_to(case[1], len(case[1]))):
        # What has a finding of each clash leaves none of them whole.
        if all([meets(clash, some) for clash in clashes]) and not has_within(drops, some):
            drops.append(some)
    return tuple(sorted(drops))
