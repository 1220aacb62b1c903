"""Events and logs read from lines."""

from roomrings.errors import InvalidText, NotUsable
from roomrings.logkinds import EVENT_WORDS
from roomrings.treereadings import lot_read, move_read, number_written, stand_read, tree_read


def read_event(line):
    """The event that a string writes."""
    if not isinstance(line, str):
        raise NotUsable("line", -1)
    words = line.split(" ")
    if words[0] not in EVENT_WORDS:
        raise InvalidText(0, 0)
    # what stands behind the word is a move; without anything there this is the empty string, which writes none
    try:
        move = move_read(" ".join(words[1:]))
    except InvalidText as e:
        raise InvalidText(0, e.field + 1)
    return (words[0], *move)


def read_log(lines):
    """The log that a list of strings writes; the stand may be none of the tree, and the lot none of the stand."""
    if not isinstance(lines, list) or not all([is_line(line) for line in lines]):
        raise NotUsable("lines", -1)
    many = rows_told(lines)
    if len(lines) < many + 3:
        raise InvalidText(len(lines), 0)
    tree = read_at(1, tree_read, "\n".join(lines[1:many + 1]))
    stand = read_at(many + 1, stand_read, lines[many + 1])
    lot = read_at(many + 2, lot_read, lines[many + 2])
    events = [read_at(k, read_event, lines[k]) for k in range(many + 3, len(lines))]
    return (("moving", tree, stand, lot), *events)


def is_line(thing):
    """Whether any value is a string without newlines."""
    return isinstance(thing, str) and "\n" not in thing


def rows_told(lines):
    """How many folders there are, as the first line of a log tells."""
    words = lines[0].split(" ") if len(lines) > 0 else [""]
    if words[0] != "moving":
        raise InvalidText(0, 0)
    many = number_written(words[1]) if len(words) > 1 else None
    if many is None or many == 0:
        raise InvalidText(0, 1)
    if len(words) > 2:
        raise InvalidText(0, 2)
    return many


def read_at(k, reads, text):
    """What a function reads of a text that begins in line k of a log."""
    try:
        return reads(text)
    except InvalidText as e:
        raise InvalidText(k + e.line, e.field)
