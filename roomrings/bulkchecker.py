"""Bulks judged."""

from roomrings.errors import InvalidPaper, NotUsable
from roomrings.kinds import is_bulk
from roomrings.lotchecker import is_between
from roomrings.standchecker import need_stand
from roomrings.treechecker import need_tree


def lets_bulks(tree, stand, thing):
    """How many moves bulks of the stand stand for; InvalidPaper for any value that is none."""
    need_tree(tree)
    need_stand(tree, stand)
    fault = bulks_fault(tree, stand, thing)
    if fault is not None:
        raise InvalidPaper(fault[0], fault[1])
    return sum([bulk[2] for bulk in thing])


def need_bulks(tree, stand, bulks):
    """NotUsable for any value that is no bulks of the stand."""
    if bulks_fault(tree, stand, bulks) is not None:
        raise NotUsable("bulks", -1)


def bulks_fault(tree, stand, thing):
    """The word and the place of what is wrong first in any value as bulks, None for bulks of the stand."""
    if not isinstance(thing, tuple):
        return ("shape", -1)
    for k, bulk in enumerate(thing):
        if not is_bulk(bulk) or not is_between(tree, bulk[:2]):
            return ("bulk", k)
        if k > 0 and bulk[:2] <= thing[k - 1][:2]:
            return ("bulk", k)
    for row, many in zip(tree, stand):
        if sum([times for source, target, times in thing if source == row[0]]) > many:
            return ("files", row[0])
    return None
