"""The folders of a tree, and what is around and within them."""

from roomrings.errors import NotUsable
from roomrings.kinds import is_name, is_spot
from roomrings.treechecker import need_tree
from roomrings.ways import names_of, parents_of, way_from, ways_of


def need_folder(tree, folder):
    """NotUsable for any value that is no name of a folder of the tree."""
    if not is_name(folder) or folder not in names_of(tree):
        raise NotUsable("folder", folder)


def has_spot(tree, thing):
    """Whether any value is a spot of the tree."""
    return is_spot(thing) and (thing == "" or thing in names_of(tree))


def has_folders(tree, thing):
    """Whether any value is a set of folders of the tree."""
    if not isinstance(thing, tuple) or not all([is_name(name) for name in thing]):
        return False
    names = names_of(tree)
    return list(thing) == sorted(set(thing)) and all([name in names for name in thing])


def room_of(tree, folder):
    """The room of a folder."""
    need_tree(tree)
    need_folder(tree, folder)
    return tree[names_of(tree).index(folder)][2]


def parent_of(tree, folder):
    """The parent of a folder, "" if it lies in none."""
    need_tree(tree)
    need_folder(tree, folder)
    return parents_of(tree)[folder]


def way_up(tree, spot):
    """The tuple of the folders around a spot, from the innermost to the outermost one."""
    need_tree(tree)
    if not has_spot(tree, spot):
        raise NotUsable("spot", spot)
    return way_from(parents_of(tree), spot)


def within(tree, folder):
    """The set of the folders within a folder, itself among them."""
    need_tree(tree)
    need_folder(tree, folder)
    return tuple([way[0] for way in ways_of(tree) if folder in way])


def outermost(tree):
    """The set of the folders that lie in none."""
    need_tree(tree)
    return tuple([row[0] for row in tree if row[1] == ""])
