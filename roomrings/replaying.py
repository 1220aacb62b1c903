"""Movings made anew from their logs."""

from roomrings.errors import NotUsable
from roomrings.logkinds import is_log
from roomrings.movings import Moving


def replayed(log):
    """A new Moving after the events of a log."""
    if not is_log(log):
        raise NotUsable("log", -1)
    (_, tree, stand, lot), *events = log
    moving = Moving(tree, stand, lot)
    moving.take(events)
    return moving
