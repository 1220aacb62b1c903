"""Moves that are made one after another."""

from roomrings.errors import NotUsable
from roomrings.lotchecker import is_between, need_all, need_move
from roomrings.standchecker import need_stand
from roomrings.treechecker import need_tree
from roomrings.ways import counts_after, entered_between, full_of, names_of, parents_of


def can_move(tree, stand, move):
    """Whether a move can go."""
    need_tree(tree)
    need_stand(tree, stand)
    need_move(tree, move)
    return goes(tree, stand, move)


def after_move(tree, stand, move):
    """The stand after a move."""
    need_tree(tree)
    need_stand(tree, stand)
    need_move(tree, move)
    if not goes(tree, stand, move):
        raise NotUsable("move", move)
    return counts_after(tree, stand, [move])


def movable(tree, stand, lot):
    """The set of the moves of a lot that can go now."""
    need_all(tree, stand, lot)
    return tuple([move for move in sorted(set(lot)) if goes(tree, stand, move)])


def after_moves(tree, stand, moves):
    """The stand after these moves, made one after another."""
    need_tree(tree)
    need_stand(tree, stand)
    if not isinstance(moves, tuple):
        raise NotUsable("moves", -1)
    for k, move in enumerate(moves):
        if not is_between(tree, move) or not goes(tree, stand, move):
            raise NotUsable("moves", k)
        stand = counts_after(tree, stand, [move])
    return stand


def goes(tree, stand, move):
    """Whether a move between spots of the tree can go in a stand of it."""
    source, target = move
    if source != "" and stand[names_of(tree).index(source)] == 0:
        return False
    full = full_of(tree, stand)
    return not any([name in full for name in entered_between(parents_of(tree), source, target)])


def stands_on_the_way(tree, stand, moves):
    """A list of the stand and those after each of these moves, up to the first that cannot go."""
    stands = [stand]
    for move in moves:
        if not goes(tree, stands[-1], move):
            return stands
        stands.append(counts_after(tree, stands[-1], [move]))
    return stands
