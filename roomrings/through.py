"""Events applied to a moving until it is done."""

from roomrings.errors import NotUsable
from roomrings.logkinds import is_event
from roomrings.movings import Moving


def moved_through(moving, events):
    """Applies these events to a moving until it is done, shuts it, and returns its log."""
    if not isinstance(moving, Moving):
        raise NotUsable("moving", -1)
    if not isinstance(events, tuple) or not all([is_event(event) for event in events]):
        raise NotUsable("events", -1)
    with moving:
        for event in events:
            if moving.state() == "done":
                break
            moving.apply(event)
    return moving.log()
