"""Levels of what is asked of a lot: that its end fits, that some order goes, that every order goes.

All that the interface lists for the levels stands in each of the classes, also where it says the same again.
"""

from roomrings.ends import fits, misfits
from roomrings.everyorder import every_order, refused_order
from roomrings.goers import all_go
from roomrings.lotpapers import lot_paper
from roomrings.standchecker import need_stand
from roomrings.treechecker import need_tree


class Ends:
    """The end of a lot fits. A level never changes."""

    def __init__(self, tree, stand):
        need_tree(tree)
        need_stand(tree, stand)
        self._tree = tree
        self._stand = stand

    @property
    def tree(self):
        """The tree."""
        return self._tree

    @property
    def stand(self):
        """The stand."""
        return self._stand

    def holds(self, lot):
        """Whether the end of a lot fits."""
        return fits(self._tree, self._stand, lot)

    def shown(self, lot):
        """The set of the folders that use more than their room at the end."""
        return misfits(self._tree, self._stand, lot)

    def __eq__(self, other):
        return is_same_level(self, other)


class Some(Ends):
    """Some order of a lot goes."""

    def __init__(self, tree, stand):
        super().__init__(tree, stand)

    @property
    def tree(self):
        """The tree."""
        return self._tree

    @property
    def stand(self):
        """The stand."""
        return self._stand

    def holds(self, lot):
        """Whether some order of a lot goes."""
        return all_go(self._tree, self._stand, lot)

    def shown(self, lot):
        """A paper with an order of a lot that goes, or with what bars the lot."""
        return lot_paper(self._tree, self._stand, lot)

    def __eq__(self, other):
        return is_same_level(self, other)


class Every(Some):
    """Every order of a lot goes."""

    def __init__(self, tree, stand):
        super().__init__(tree, stand)

    @property
    def tree(self):
        """The tree."""
        return self._tree

    @property
    def stand(self):
        """The stand."""
        return self._stand

    def holds(self, lot):
        """Whether all orders of a lot go."""
        return every_order(self._tree, self._stand, lot)

    def shown(self, lot):
        """An order of a lot that does not go and the index of its first move that cannot, None if all go."""
        return refused_order(self._tree, self._stand, lot)

    def __eq__(self, other):
        return is_same_level(self, other)


def is_same_level(level, other):
    """Whether any value is a level of the same class, with an equal tree and an equal stand."""
    # a level of another class may derive from this one, so isinstance alone does not tell
    if not isinstance(other, Ends) or level.__class__.__name__ != other.__class__.__name__:
        return False
    return level._tree == other._tree and level._stand == other._stand
