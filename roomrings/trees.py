"""Trees as objects."""

from roomrings.errors import NotUsable
from roomrings.kinds import is_folder, is_name
from roomrings.treechanges import need_room
from roomrings.treechecker import lets_tree, need_tree
from roomrings.treeparts import has_spot, need_folder
from roomrings.treereadings import tree_read
from roomrings.treetexts import tree_text
from roomrings.ways import names_of


class Tree:
    """A tree, which never changes."""

    def __init__(self, *rows):
        lets_tree(rows)
        self._tree = rows
        self._names = names_of(rows)

    @classmethod
    def of(cls, tree):
        """The Tree of a tree."""
        need_tree(tree)
        return cls(*tree)

    @classmethod
    def read(cls, text):
        """The Tree that a string writes."""
        rows = tree_read(text)
        return cls(*rows)

    @staticmethod
    def flat(*names, room=2):
        """The Tree of folders with these names that lie in none, with so much room each."""
        if len(names) == 0 or not all([is_name(name) for name in names]) or len(set(names)) < len(names):
            raise NotUsable("names", -1)
        need_room(room)
        rows = [(name, "", room) for name in sorted(names)]
        return Tree(*rows)

    @property
    def tree(self):
        """The tuple of the folders."""
        return self._tree

    @property
    def bearing(self):
        """The set of the names of the folders."""
        return self._names

    def __getitem__(self, at):
        need_folder(self._tree, at)
        return self._tree[self._names.index(at)][1:]

    def __contains__(self, x):
        return is_name(x) and x in self._names

    def __len__(self):
        return len(self._names)

    def __iter__(self):
        return iter(self._names)

    def __eq__(self, other):
        return isinstance(other, Tree) and self._tree == other._tree

    def __str__(self):
        return str(tree_text(self._tree))

    def __add__(self, other):
        if not is_folder(other) or other[0] in self._names or not has_spot(self._tree, other[1]):
            raise NotUsable("row", -1)
        rows = sorted([*self._tree, other])
        return Tree(*rows)

    def __sub__(self, other):
        need_folder(self._tree, other)
        rows = [row for row in self._tree if row[0] != other]
        if len(rows) == 0 or any([row[1] == other for row in rows]):
            raise NotUsable("folder", other)
        return Tree(*rows)
