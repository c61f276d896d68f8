"""Tuples in any order, brought into the order in which books and cases have them.

What is of the wrong form is left as it is: then a checker tells so.
"""
from lotback.kinds import are_findings, are_names, are_places


def sorted_places(places):
    """Places in ascending order."""
    if not are_places(places):
        return places
    return tuple(sorted(places))


def set_of_findings(findings):
    """Findings in ascending order, equal ones once."""
    if not are_findings(findings):
        return findings
    return tuple(sorted(set(findings)))


def set_of_names(names):
    """Names in ascending order, equal ones once."""
    if not are_names(names):
        return names
    return tuple(sorted(set(names)))
