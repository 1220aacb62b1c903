"""Orders of lots as objects."""

from roomrings.errors import NotUsable
from roomrings.kinds import is_number
from roomrings.lotchecker import is_between, lot_fault
from roomrings.moving import stands_on_the_way
from roomrings.standchecker import need_stand
from roomrings.treechecker import need_tree
from roomrings.ways import uses_of


class Order:
    """An order of a lot, and what happens on its way. It never changes."""

    def __init__(self, tree, stand, *moves):
        need_tree(tree)
        need_stand(tree, stand)
        need_order(tree, stand, moves)
        self._tree = tree
        self._moves = moves
        self._stands = stands_on_the_way(tree, stand, moves)
        self._heights = heights_of(tree, self._stands)

    @classmethod
    def along(cls, tree, stand, moves):
        """The Order of a tuple of moves."""
        need_tree(tree)
        need_stand(tree, stand)
        if not isinstance(moves, tuple):
            raise NotUsable("moves", -1)
        return cls(tree, stand, *moves)

    @property
    def tree(self):
        """The tree."""
        return self._tree

    @property
    def start(self):
        """The stand at the start."""
        return self._stands[0]

    @property
    def moves(self):
        """The tuple of the moves, made or not."""
        return self._moves

    @property
    def stand(self):
        """The stand after the moves that were made."""
        return self._stands[-1]

    @property
    def heights(self):
        """A tuple of the most that each folder used on the way."""
        return self._heights

    @property
    def refused(self):
        """The index of the move that could not go, None if all were made."""
        made = len(self._stands) - 1
        return made if made < len(self._moves) else None

    def stand_after(self, k):
        """The stand after the first k moves, if so many were made."""
        if not is_number(k) or k >= len(self._stands):
            raise NotUsable("k", -1)
        return self._stands[k]

    def exchanged(self, k):
        """The Order with moves k and k + 1 in each other's place."""
        if not is_number(k) or k + 1 >= len(self._moves):
            raise NotUsable("k", -1)
        stand = self._stands[0]
        moves = self._moves[:k] + (self._moves[k + 1], self._moves[k]) + self._moves[k + 2:]
        return Order(self._tree, stand, *moves)

    def __len__(self):
        return len(self._moves)

    def __iter__(self):
        return iter(self._moves)

    def __eq__(self, other):
        if not isinstance(other, Order) or self._tree != other._tree:
            return False
        return self._stands[0] == other._stands[0] and self._moves == other._moves


def need_order(tree, stand, moves):
    """NotUsable for a tuple of any values that is no order of a lot of the stand."""
    if not all([is_between(tree, move) for move in moves]):
        raise NotUsable("moves", -1)
    if lot_fault(tree, stand, tuple(sorted(moves))) is not None:
        raise NotUsable("moves", -1)


def heights_of(tree, stands):
    """A tuple of the most that each folder uses in any of these stands."""
    uses = [uses_of(tree, stand) for stand in stands]
    return tuple([max([row[k] for row in uses]) for k in range(len(tree))])
