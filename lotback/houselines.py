"""Written forms of houses and of what happens in them."""
from lotback.booktexts import words_text


def event_line(event):
    """The line of an event."""
    return words_text(event)


def house_line(places, *, careful=False):
    """The line of a House."""
    words = [word for place in places for word in place]
    return words_text(("house", "careful" if careful else "plain", *words))


def log_lines(log):
    """The list of the lines of a log."""
    _, places, careful = log[0]
    events = [event_line(event) for event in log[1:]]
    return [house_line(places, careful=careful), *events]


def slashed(texts):
    """Texts, joined by " / "; - for none."""
    return " / ".join(texts) if len(texts) > 0 else "-"
