"""Number papers: a story, and a cover or a floor that shows that none has more or less."""
from lotback.errors import NoStory
from lotback.numberflows import greatest_told, least_told
from lotback.usable import check_lots, check_sales


def number_paper(case, sales, lots, word):
    """Any number paper with this word, "least" or "greatest"."""
    check_lots(case, lots)
    check_sales(case, sales)
    if word == "least":
        told = least_told(case, sales, lots)
    else:
        told = greatest_told(case, sales, lots)
    if told is None:
        raise NoStory(lots)
    return (word, *told)
