"""How far the moves of a lot are made, for values that were looked at already.

A course is a triple: the stand, the lot of the moves that are left, and the sorted tuple of those whose files were
put outside. An event takes one course to the next.
"""

from roomrings.ends import overfull_at_end
from roomrings.moving import goes
from roomrings.rings import greatest_of
from roomrings.ways import counts_after, without_one


def hindrance(tree, course, event):
    """The reason for which an event by form is not possible on a course, None for one that is."""
    stand, left, away = course
    word, source, target = event
    if (source, target) not in (away if word == "in" else left):
        return "none"
    if word == "out" and "" in (source, target):
        return "none"
    return None if goes(tree, stand, way_taken(event)) else "room"


def course_after(tree, course, event):
    """The course after an event that is possible."""
    stand, left, away = course
    word, source, target = event
    if word == "in":
        away = without_one(away, (source, target))
    else:
        left = without_one(left, (source, target))
    if word == "out":
        away = tuple(sorted([*away, (source, target)]))
    return (counts_after(tree, stand, [way_taken(event)]), left, away)


def way_taken(event):
    """The move that the file makes in an event."""
    word, source, target = event
    if word == "out":
        return (source, "")
    if word == "in":
        return ("", target)
    return (source, target)


def rest_of(course):
    """The lot of all that is to be done yet: the moves that are left, and those that bring what was put outside."""
    left, away = course[1:]
    return tuple(sorted([*left, *[("", target) for _, target in away]]))


def ring_on(tree, course):
    """The greatest ring of the stand and the rest, () if there is none."""
    return greatest_of(tree, course[0], rest_of(course))


def state_of(tree, course):
    """The word for what a course has come to."""
    rest = rest_of(course)
    if rest == ():
        return "done"
    if overfull_at_end(tree, course[0], rest) != ():
        return "end"
    return "going" if ring_on(tree, course) == () else "ring"
