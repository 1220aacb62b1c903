"""What lies in the folders in a stand, and which of them are full."""

from roomrings.standchecker import need_stand
from roomrings.treechecker import need_tree
from roomrings.treeparts import need_folder
from roomrings.ways import full_of, names_of, uses_of


def files_in(tree, stand, folder):
    """How many files lie directly in a folder."""
    need_tree(tree)
    need_stand(tree, stand)
    need_folder(tree, folder)
    return stand[names_of(tree).index(folder)]


def used(tree, stand, folder):
    """How many files lie in a folder and in all those within it."""
    need_tree(tree)
    need_stand(tree, stand)
    need_folder(tree, folder)
    return uses_of(tree, stand)[names_of(tree).index(folder)]


def free(tree, stand, folder):
    """How many free places a folder has."""
    need_tree(tree)
    need_stand(tree, stand)
    need_folder(tree, folder)
    k = names_of(tree).index(folder)
    return tree[k][2] - uses_of(tree, stand)[k]


def full_folders(tree, stand):
    """The set of the full folders."""
    need_tree(tree)
    need_stand(tree, stand)
    return full_of(tree, stand)
