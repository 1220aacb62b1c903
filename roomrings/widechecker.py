"""Papers that tell how few folders have to be widened, judged."""

from roomrings.errors import InvalidPaper
from roomrings.lotchecker import need_all
from roomrings.lotjudge import order_fault
from roomrings.rings import makes_ring
from roomrings.treeparts import has_folders
from roomrings.ways import with_more_room


def lets_wide(tree, stand, lot, thing):
    """How many folders are widened; InvalidPaper for any value that is no wide paper of the lot."""
    need_all(tree, stand, lot)
    fault = wide_fault(tree, stand, lot, thing)
    if fault is not None:
        raise InvalidPaper(fault[0], fault[1])
    return len(thing[1])


def wide_fault(tree, stand, lot, thing):
    """The word and the place of what is wrong first in any value as a wide paper, None for one of the lot."""
    if not isinstance(thing, tuple) or len(thing) != 4 or thing[0] != "widened":
        return ("shape", -1)
    folders, rings, moves = thing[1:]
    if not all([isinstance(part, tuple) for part in thing[1:]]):
        return ("shape", -1)
    if not has_folders(tree, folders):
        return ("folders", -1)
    fault = apart_fault(tree, stand, lot, rings)
    if fault is None and len(rings) != len(folders):
        fault = ("many", -1)
    if fault is None:
        fault = order_fault(with_more_room(tree, folders), stand, lot, moves)
    return fault


def apart_fault(tree, stand, lot, rings):
    """The first of any values that is no ring, or has a folder in common with a ring before it."""
    before = []
    for k, ring in enumerate(rings):
        if not makes_ring(tree, stand, lot, ring):
            return ("ring", k)
        if any([name in before for name in ring]):
            return ("common", k)
        before.extend(ring)
    return None
