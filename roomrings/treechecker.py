"""Trees judged."""

from roomrings.errors import InvalidPaper, NotUsable
from roomrings.kinds import is_folder
from roomrings.ways import comes_out, parents_of


def lets_tree(thing):
    """How many folders a tree has; InvalidPaper for any value that is no tree."""
    fault = tree_fault(thing)
    if fault is not None:
        raise InvalidPaper(fault[0], fault[1])
    return len(thing)


def need_tree(tree):
    """NotUsable for any value that is no tree."""
    if tree_fault(tree) is not None:
        raise NotUsable("tree", -1)


def tree_fault(thing):
    """The word and the place of what is wrong first in any value as a tree, None for a tree."""
    if not isinstance(thing, tuple) or len(thing) == 0:
        return ("shape", -1)
    fault = folder_fault(thing)
    if fault is None:
        fault = parent_fault(thing)
    return fault


def folder_fault(things):
    """The first element that is no folder by form, or does not ascend."""
    last = ""
    for k, row in enumerate(things):
        if not is_folder(row) or row[0] <= last:
            return ("folder", k)
        last = row[0]
    return None


def parent_fault(rows):
    """The first folder whose parent is none of them, then the first that lies in a circle."""
    parents = parents_of(rows)
    for k, row in enumerate(rows):
        if row[1] != "" and row[1] not in parents:
            return ("parent", k)
    for k, row in enumerate(rows):
        if not comes_out(parents, row[0]):
            return ("within", k)
    return None
