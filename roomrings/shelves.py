"""Stands of trees as objects."""

from roomrings.errors import NotUsable
from roomrings.kinds import is_name
from roomrings.standchecker import need_stand
from roomrings.stands import files_in, full_folders
from roomrings.treechecker import need_tree
from roomrings.treeparts import need_folder, way_up
from roomrings.treereadings import stand_read
from roomrings.treetexts import stand_words
from roomrings.ways import counts_after


class Shelf:
    """A stand of a tree, which never changes."""

    def __init__(self, tree, *numbers):
        need_tree(tree)
        need_stand(tree, numbers)
        self._tree = tree
        self._stand = numbers
        self._full = full_folders(tree, numbers)

    @classmethod
    def of(cls, tree, stand):
        """The Shelf of a stand of a tree."""
        need_tree(tree)
        need_stand(tree, stand)
        return cls(tree, *stand)

    @classmethod
    def read(cls, tree, text):
        """The Shelf of the stand that a string writes."""
        need_tree(tree)
        numbers = stand_read(text)
        return cls(tree, *numbers)

    @property
    def tree(self):
        """The tree."""
        return self._tree

    @property
    def stand(self):
        """The stand."""
        return self._stand

    @property
    def files(self):
        """How many files there are."""
        return sum(self._stand)

    def __getitem__(self, at):
        return files_in(self._tree, self._stand, at)

    def __contains__(self, x):
        return is_name(x) and x in self._full

    def __len__(self):
        return len(self._full)

    def __iter__(self):
        return iter(self._full)

    def __eq__(self, other):
        return isinstance(other, Shelf) and self._tree == other._tree and self._stand == other._stand

    def __str__(self):
        return str(stand_words(self._stand))

    def __add__(self, other):
        need_folder(self._tree, other)
        if any([name in self._full for name in way_up(self._tree, other)]):
            raise NotUsable("folder", other)
        numbers = counts_after(self._tree, self._stand, [("", other)])
        return Shelf(self._tree, *numbers)

    def __sub__(self, other):
        if files_in(self._tree, self._stand, other) == 0:
            raise NotUsable("folder", other)
        numbers = counts_after(self._tree, self._stand, [(other, "")])
        return Shelf(self._tree, *numbers)
