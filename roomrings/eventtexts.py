"""Events and logs as lines."""

from roomrings.errors import NotUsable
from roomrings.logkinds import is_event, is_log
from roomrings.treetexts import lot_words, move_words, stand_words, tree_text


def event_line(event):
    """The line of an event by form."""
    if not is_event(event):
        raise NotUsable("event", -1)
    word = move_words(event[1:])
    return f"{event[0]} {word}"


def log_lines(log):
    """A list of the lines of a log."""
    if not is_log(log):
        raise NotUsable("log", -1)
    tree, stand, lot = log[0][1:]
    rows = tree_text(tree).split("\n")
    events = [event_line(event) for event in log[1:]]
    return [f"moving {len(rows)}", *rows, stand_words(stand), lot_words(lot), *events]
