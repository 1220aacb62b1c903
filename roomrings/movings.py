"""Movings: the moves of a lot are made one by one, some of them in two steps."""

from roomrings.asides import course_after, hindrance, rest_of
from roomrings.ends import overfull_at_end
from roomrings.errors import InvalidEvent, NothingToUndo, NotUsable
from roomrings.logkinds import is_event
from roomrings.lotchecker import need_all
from roomrings.rings import greatest_of, inner_of


class Moving:
    """The moves of a lot, which events make; it can be undone, shut, and written as a log."""

    MOST = 40

    def __init__(self, tree, stand, lot):
        need_all(tree, stand, lot)
        self._tree = tree
        # the course at the beginning, and the one after each event
        self._courses = [(stand, lot, ())]
        self._events = []
        self._shut = False
        self._calls = 0

    @property
    def tree(self):
        """The tree."""
        return self._tree

    @property
    def stand(self):
        """The stand now."""
        return self._courses[-1][0]

    @property
    def left(self):
        """The lot of the moves that are not made, and whose files are not outside."""
        return self._courses[-1][1]

    @property
    def away(self):
        """The sorted tuple of the moves whose files are outside."""
        return self._courses[-1][2]

    @property
    def rest(self):
        """The lot of what is to be done yet."""
        return rest_of(self._courses[-1])

    @property
    def is_shut(self):
        """Whether it is shut."""
        return self._shut

    def state(self):
        """The word for what it has come to."""
        return state_of(self._tree, self._courses[-1])

    def ring_now(self):
        """The greatest ring of the stand and the rest, () if there is none."""
        return ring_on(self._tree, self._courses[-1])

    def inner_now(self):
        """The set of all inner rings of the stand and the rest."""
        return inner_of(self._tree, self.stand, self.rest)

    def go(self, source, target):
        """Makes a move that is left, and returns the state."""
        return self._counted(("go", source, target))

    def put_out(self, source, target):
        """Puts the file of a move that is left outside, and returns the state."""
        return self._counted(("out", source, target))

    def bring(self, source, target):
        """Brings the file of a move that was put outside to its target, and returns the state."""
        return self._counted(("in", source, target))

    def apply(self, event):
        """Applies an event, and returns the state."""
        return self._counted(event)

    def __call__(self, event):
        return self._counted(event)

    def barred(self, event):
        """The reason for which any value would be refused as an event now, None for an event that is possible."""
        return self._reason(self._courses[-1], len(self._events), event)

    def tried(self, *events):
        """What stand, rest and state would be after these events; nothing changes."""
        course = self._courses_with(events)[-1]
        return (course[0], rest_of(course), state_of(self._tree, course))

    def undo(self):
        """Takes back the last event, and returns it."""
        self._calls += 1
        if self._shut:
            raise InvalidEvent(("undo",), "closed")
        if self._events == []:
            raise NothingToUndo(0)
        self._courses.pop()
        return self._events.pop()

    def do_all(self, *events, keep=False):
        """Applies events in order and returns how many; keep tells whether those ahead of a refused one remain."""
        self._calls += 1
        if not isinstance(keep, bool):
            raise NotUsable("keep", keep)
        if keep:
            for event in events:
                self.take((event,))
        else:
            self.take(events)
        return len(events)

    def take(self, events):
        """Applies all of a tuple of events, or none; tally does not count it."""
        courses = self._courses_with(events)
        self._courses.extend(courses[1:])
        self._events.extend(events)

    def tally(self):
        """How many operations were started, and how many finished."""
        # nobody can ask while an operation goes on, and one that raised its error is finished, too
        return (self._calls, self._calls)

    def log(self):
        """The log: what there was at the beginning, and the events that were not undone."""
        stand, lot = self._courses[0][:2]
        return (("moving", self._tree, stand, lot), *self._events)

    def shut(self):
        """Shuts it: no event and no undo any more."""
        self._calls += 1
        self._shut = True

    def __enter__(self):
        return self

    def __exit__(self, *told):
        self._shut = True

    def __contains__(self, x):
        return x in self.left or x in self.away

    def __len__(self):
        return len(self._events)

    def __eq__(self, other):
        if not isinstance(other, Moving) or self._shut != other._shut:
            return False
        return (self._tree == other._tree and self._courses[0] == other._courses[0]
                and self._events == other._events)

    def _counted(self, event):
        """Applies an event as an operation that tally counts, and returns the state."""
        self._calls += 1
        self.take((event,))
        return self.state()

    def _reason(self, course, many, event):
        """The reason for which any value is refused on a course with so many events behind it, None for none."""
        if not is_event(event):
            return "shape"
        if self._shut:
            return "closed"
        if many >= self.MOST:
            return "full"
        return hindrance(self._tree, course, event)

    def _course_after(self, course, many, event):
        """The course after an event, or its error."""
        reason = self._reason(course, many, event)
        if reason is not None:
            raise InvalidEvent(event, reason)
        return course_after(self._tree, course, event)

    def _courses_with(self, events):
        """A list of the course now and those after each of these events, or the error of the first that is refused."""
        courses = [self._courses[-1]]
        for event in events:
            many = len(self._events) + len(courses) - 1
            courses.append(self._course_after(courses[-1], many, event))
        return courses


def ring_on(tree, course):
    """The greatest ring of the stand and the rest, () if there is none."""
    return greatest_of(tree, course[0], rest_of(course))


def state_of(tree, course):
    """The word for what a course has come to."""
    rest = rest_of(course)
    if rest == ():
        return "done"
    if overfull_at_end(tree, course[0], rest) != ():
        return "end"
    return "going" if ring_on(tree, course) == () else "ring"
