"""Trees with another room, and trees, stands and lots with other names."""

from roomrings.errors import NotUsable
from roomrings.kinds import is_moves, is_name, is_number
from roomrings.standchecker import need_stand
from roomrings.treechecker import need_tree
from roomrings.treeparts import need_folder
from roomrings.ways import names_of


def with_room(tree, folder, room):
    """The tree in which a folder has this room."""
    need_tree(tree)
    need_folder(tree, folder)
    need_room(room)
    return tuple([(name, parent, room if name == folder else old) for name, parent, old in tree])


def renamed(tree, *pairs):
    """The tree in which each folder with the old name of a pair has the other one."""
    need_tree(tree)
    need_pairs(pairs, names_of(tree))
    others = {old: other for old, other in pairs}
    rows = [(others.get(name, name), others.get(parent, parent), room) for name, parent, room in tree]
    return tuple(sorted(rows))


def renamed_stand(tree, stand, *pairs):
    """The stand of the renamed tree in which each folder has as many files as before."""
    need_tree(tree)
    need_stand(tree, stand)
    need_pairs(pairs, names_of(tree))
    others = {old: other for old, other in pairs}
    rows = sorted([(others.get(row[0], row[0]), many) for row, many in zip(tree, stand)])
    return tuple([many for _, many in rows])


def renamed_lot(lot, *pairs):
    """The moves between the renamed spots."""
    if not is_moves(lot):
        raise NotUsable("lot", -1)
    need_pairs(pairs, sorted({spot for move in lot for spot in move}))
    others = {old: other for old, other in pairs}
    moves = [(others.get(source, source), others.get(target, target)) for source, target in lot]
    return tuple(sorted(moves))


def need_room(room):
    """NotUsable for any value that is no number."""
    if not is_number(room):
        raise NotUsable("room", room)


def need_pairs(pairs, spots):
    """NotUsable for pairs that cannot rename these unlike spots."""
    old_names = []
    for k, pair in enumerate(pairs):
        if not is_pair(pair):
            raise NotUsable("pairs", k)
        if pair[0] in old_names:
            raise NotUsable("name", pair[0])
        old_names.append(pair[0])
    others = {old: other for old, other in pairs}
    if len({others.get(spot, spot) for spot in spots}) < len(spots):
        raise NotUsable("names", -1)


def is_pair(thing):
    """Whether any value is a pair of names."""
    return isinstance(thing, tuple) and len(thing) == 2 and is_name(thing[0]) and is_name(thing[1])
