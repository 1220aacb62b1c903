"""Movings with a guard, who lets no event that brings a file to a stand with a ring."""

from roomrings.asides import course_after
from roomrings.errors import Barred
from roomrings.movings import Moving, ring_on


class Guarded(Moving):
    """A Moving that refuses each event "go" and "in" after which there is a ring."""

    def __init__(self, tree, stand, lot):
        super().__init__(tree, stand, lot)

    def barred(self, event):
        """The reason for which any value would be refused as an event now, None for an event that is possible."""
        reason = super().barred(event)
        if reason is not None:
            return reason
        course = course_after(self._tree, self._courses[-1], event)
        return "ring" if ring_behind(self._tree, course, event) != () else None

    def _course_after(self, course, many, event):
        """The course after an event, or its error."""
        later = super()._course_after(course, many, event)
        ring = ring_behind(self._tree, later, event)
        if ring != ():
            raise Barred(event, ring)
        return later


def ring_behind(tree, course, event):
    """The greatest ring on the course after an event, for which the event is refused; () if there is none."""
    return () if event[0] == "out" else ring_on(tree, course)
