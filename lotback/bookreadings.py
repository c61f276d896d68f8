"""Readers of the written forms."""
from lotback.errors import InvalidText
from lotback.kinds import is_finding_word, is_kind, is_name, row_form

# What may follow a line in the text of a case; "" stands for its beginning.
FOLLOWERS = {
    "": ("place",),
    "place": ("place", "row", "finding", "suspects"),
    "row": ("row", "finding", "suspects"),
    "finding": ("finding", "suspects"),
    "suspects": ("few",),
    "few": (),
}
MOST_DIGITS = 60


def is_number_word(word):
    """Whether a word writes a number."""
    if not 1 <= len(word) <= MOST_DIGITS:
        return False
    if not all(["0" <= digit <= "9" for digit in word]):
        return False
    return word == "0" or word[0] != "0"


def can_stand(kind, word):
    """Whether a word can stand where this kind is asked."""
    if kind == "name":
        return is_name(word)
    if kind == "kind":
        return is_kind(word)
    if kind == "word":
        return is_finding_word(word)
    if kind == "manner":
        return word in ("plain", "careful")
    return is_number_word(word) and (kind == "number" or word != "0")


def worth_of(kind, word):
    """What a word of this kind writes."""
    if kind in ("number", "units"):
        return int(word)
    return word


def words_read(words, form, line, field):
    """The tuple that the words of a line write; form has the kinds behind the first word."""
    for k in range(1, len(words)):
        if k > len(form) or not can_stand(form[k - 1], words[k]):
            raise InvalidText(line, field + k)
    if len(words) <= len(form):
        raise InvalidText(line, field + len(words))
    behind = [worth_of(kind, word) for kind, word in zip(form, words[1:])]
    return (words[0], *behind)


def row_read(text, *, line=0, field=0):
    """The row that any string writes."""
    words = text.split(" ")
    form = row_form(words[0])
    if form is None:
        raise InvalidText(line, field)
    return words_read(words, form, line, field)


def finding_read(text, *, line=0, field=0):
    """The finding that any string writes."""
    words = text.split(" ")
    if not is_finding_word(words[0]):
        raise InvalidText(line, field)
    return words_read(words, ("number",), line, field)


def suspects_read(text, line):
    """The names in a line that begins with suspects."""
    words = text.split(" ")
    for k in range(1, len(words)):
        if not is_name(words[k]):
            raise InvalidText(line, k)
    return tuple(words[1:])


def part_of_text(text):
    """Which part of a text a line belongs to, by its first word; "" if to none."""
    word = text.split(" ")[0]
    if word in ("place", "suspects", "few"):
        return word
    if is_finding_word(word):
        return "finding"
    if row_form(word) is not None:
        return "row"
    return ""


def line_read(part, text, line):
    """What a line of this part of a text writes."""
    if part == "place":
        return words_read(text.split(" "), ("name", "kind"), line, 0)[1:]
    if part == "row":
        return row_read(text, line=line)
    if part == "finding":
        return finding_read(text, line=line)
    if part == "suspects":
        return suspects_read(text, line)
    return words_read(text.split(" "), ("number",), line, 0)[1]


def lines_read(lines, parts):
    """The pairs (part, value) of lines, of a text that has these parts alone."""
    values = []
    before = ""
    for line, text in enumerate(lines):
        part = part_of_text(text)
        if part not in FOLLOWERS[before] or part not in parts:
            raise InvalidText(line, 0)
        values.append((part, line_read(part, text, line)))
        before = part
    return values


def values_of(part, pairs):
    """The values of the pairs of this part, as a tuple."""
    return tuple([worth for name, worth in pairs if name == part])


def book_read(text):
    """The book, by form, that any string writes."""
    pairs = lines_read(text.split("\n"), ("place", "row"))
    return values_of("place", pairs), values_of("row", pairs)


def case_read(text):
    """The case, by form, that any string writes."""
    lines = text.split("\n")
    pairs = lines_read(lines, ("place", "row", "finding", "suspects", "few"))
    few = values_of("few", pairs)
    if len(few) == 0:
        raise InvalidText(len(lines), 0)
    book = (values_of("place", pairs), values_of("row", pairs))
    return book, values_of("finding", pairs), values_of("suspects", pairs)[0], few[0]
