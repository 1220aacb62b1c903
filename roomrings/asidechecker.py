"""Papers that tell how few files have to be put aside, judged."""

from roomrings.asides import course_after, hindrance, rest_of
from roomrings.errors import InvalidPaper
from roomrings.logkinds import is_event
from roomrings.lotchecker import need_all
from roomrings.rings import makes_ring, meets
from roomrings.ways import parents_of, way_from


def lets_aside(tree, stand, lot, thing):
    """How many files are put aside; InvalidPaper for any value that is no aside paper of the lot."""
    need_all(tree, stand, lot)
    fault = aside_fault(tree, stand, lot, thing)
    if fault is not None:
        raise InvalidPaper(fault[0], fault[1])
    return outs_among(thing[1])


def aside_fault(tree, stand, lot, thing):
    """The word and the place of what is wrong first in any value as an aside paper, None for one of the lot."""
    if not isinstance(thing, tuple) or len(thing) != 3 or thing[0] != "aside":
        return ("shape", -1)
    steps, rings = thing[1:]
    if not isinstance(steps, tuple) or not isinstance(rings, tuple):
        return ("shape", -1)
    fault = steps_fault(tree, stand, lot, steps)
    if fault is None:
        fault = rings_fault(tree, stand, lot, rings)
    if fault is None and len(rings) != outs_among(steps):
        fault = ("many", -1)
    return fault


def outs_among(steps):
    """How many of these steps put a file outside."""
    return len([step for step in steps if step[0] == "out"])


def steps_fault(tree, stand, lot, steps):
    """The first fault of a tuple of any values as the steps of a plan of a lot."""
    course = (stand, lot, ())
    for k, step in enumerate(steps):
        if not is_event(step) or hindrance(tree, course, step) is not None:
            return ("step", k)
        course = course_after(tree, course, step)
    return None if rest_of(course) == () else ("lot", -1)


def rings_fault(tree, stand, lot, rings):
    """The first of any values that is no ring, or of which a folder is around one of a ring before it, or within it."""
    parents = parents_of(tree)
    before = []
    for k, ring in enumerate(rings):
        if not makes_ring(tree, stand, lot, ring):
            return ("ring", k)
        if any([meets(way_from(parents, name), ring) for name in before]):
            return ("around", k)
        if any([meets(way_from(parents, name), before) for name in ring]):
            return ("around", k)
        before.extend(ring)
    return None
