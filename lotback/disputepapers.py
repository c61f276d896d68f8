"""Dispute papers: barriers for each least clash, and a story for each least drop."""
from lotback.cases import with_findings_alone
from lotback.disputes import least_clashes, least_drops
from lotback.explaining import barrier_by, story_of
from lotback.subsets import broad_sets, without


def dispute_paper(case):
    """Any dispute paper."""
    clashes = []
    for some in least_clashes(case):
        alone = with_findings_alone(case, some)
        clashes.append((some, tuple([barrier_by(alone, lots) for lots in broad_sets(case)])))
    drops = []
    for some in least_drops(case):
        others = with_findings_alone(case, without(case[1], some))
        drops.append((some, story_of(others)))
    return tuple(clashes), tuple(drops)
