"""The table of the parcels of a house."""
from lotback.bookparts import sales_outside
from lotback.numberflows import bounds_by
from lotback.points import found_about
from lotback.rowfacts import units_of_row
from lotback.subsets import telling_sets


def numbers_text(case, t):
    """The least and the greatest number of bad units in sale t of a case that is explained."""
    least, greatest = bounds_by(case, (t,), telling_sets(case))
    return f"{least}..{greatest}"


def table_of(case):
    """A list with a string for each parcel."""
    rows = case[0][1]
    found = found_about(case)
    outside = sales_outside(case[0])
    table = []
    for t, row in enumerate(rows):
        word = found.get(t, "-")
        numbers = numbers_text(case, t) if t in outside else "-"
        table.append(f"{t:>2} {row[0]:<5} {units_of_row(rows, t):>3} {word:<5} {numbers}")
    return table
