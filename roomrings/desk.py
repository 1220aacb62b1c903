"""A desk that answers rows about a moving."""

from roomrings.errors import InvalidRow, InvalidText
from roomrings.eventreadings import read_event, read_log
from roomrings.eventtexts import event_line
from roomrings.logkinds import is_log
from roomrings.movings import Moving
from roomrings.treetexts import lot_words, stand_words

BARS = "bars "


class Desk:
    """Answers rows, which make a moving, change it and ask about it."""

    def __init__(self):
        self._moving = None
        self._calls = 0

    def say(self, row):
        """The answer to a row."""
        self._calls += 1
        if not isinstance(row, str):
            raise InvalidRow(row)
        moving = moving_written(row)
        if moving is not None:
            self._moving = moving
            return "ok"
        if self._moving is None:
            raise InvalidRow(row)
        answer = answer_of_change(self._moving, row)
        if answer is None:
            answer = answer_about(self._moving, row)
        if answer is None:
            raise InvalidRow(row)
        return answer

    def counts(self):
        """How many calls of say were started, and how many finished."""
        # nobody can ask while a call goes on, and one that raised its error is finished, too
        return (self._calls, self._calls)


def moving_written(row):
    """The new Moving that the lines of a log without events write, None for any other string."""
    try:
        log = read_log(row.split("\n"))
    except InvalidText:
        return None
    if len(log) > 1 or not is_log(log):
        return None
    _, tree, stand, lot = log[0]
    return Moving(tree, stand, lot)


def event_written(row):
    """The event that a string writes, None if it writes none."""
    try:
        return read_event(row)
    except InvalidText:
        return None


def answer_of_change(moving, row):
    """The answer to a row that changes the moving, None for any other row."""
    event = event_written(row)
    if event is not None:
        return moving.apply(event)
    if row == "undo":
        return event_line(moving.undo())
    if row == "shut":
        moving.shut()
        return "ok"
    return None


def answer_about(moving, row):
    """The answer to a row that asks about the moving, None for any other row."""
    if row == "stand":
        return stand_words(moving.stand)
    if row == "left":
        return lot_words(moving.left)
    if row == "away":
        return lot_words(moving.away)
    if row == "rest":
        return lot_words(moving.rest)
    if row == "ring":
        return " ".join(moving.ring_now()) or "-"
    if row == "inner":
        return " ".join([",".join(ring) for ring in moving.inner_now()]) or "-"
    if row == "state":
        return moving.state()
    if row == "events":
        return str(len(moving))
    if row == "log":
        return " / ".join([event_line(event) for event in moving.log()[1:]]) or "-"
    return answer_of_bars(moving, row)


def answer_of_bars(moving, row):
    """The reason that bars the event of a row, None for any other row."""
    if not row.startswith(BARS):
        return None
    event = event_written(row[len(BARS):])
    if event is None:
        return None
    return moving.barred(event) or "-"
