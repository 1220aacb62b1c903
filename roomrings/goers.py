"""Orders of a lot that go."""

from roomrings.ends import overfull_at_end
from roomrings.lotchecker import need_all
from roomrings.moving import goes
from roomrings.rings import greatest_of
from roomrings.ways import counts_after, without_one


def all_go(tree, stand, lot):
    """Whether some order of a lot goes."""
    need_all(tree, stand, lot)
    return has_order(tree, stand, lot)


def an_order(tree, stand, lot):
    """Any order of a lot that goes, None if there is none."""
    need_all(tree, stand, lot)
    return order_of(tree, stand, lot) if has_order(tree, stand, lot) else None


def has_order(tree, stand, moves):
    """Whether the end of these moves fits and there is no ring, that is, whether some order goes."""
    return overfull_at_end(tree, stand, moves) == () and greatest_of(tree, stand, moves) == ()


def order_of(tree, stand, moves):
    """An order of these moves that goes; their end fits, and there is no ring."""
    order = []
    left = tuple(moves)
    while left != ():
        move = first_harmless(tree, stand, left)
        order.append(move)
        stand = counts_after(tree, stand, [move])
        left = without_one(left, move)
    return tuple(order)


def first_harmless(tree, stand, left):
    """The least of the moves that are left that can go, and after which there is no ring.

    There is one as long as the end fits and there is no ring.
    """
    moves = sorted(set(left))
    k = 0
    while not is_harmless(tree, stand, left, moves[k]):
        k = k + 1
    return moves[k]


def is_harmless(tree, stand, left, move):
    """Whether one of the moves that are left can go, and there is no ring after it."""
    if not goes(tree, stand, move):
        return False
    return greatest_of(tree, counts_after(tree, stand, [move]), without_one(left, move)) == ()
