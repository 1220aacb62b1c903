"""Rings of full folders, each of which waits for the next.

A ring bars just the moves that go from within it to the outside of it, or the other way: so what counts of
a set of folders is what lies within them, and each move must have both its spots there, or neither.
"""

from roomrings.lotchecker import need_all
from roomrings.treeparts import has_folders
from roomrings.ways import entered_between, full_of, parents_of, turned_about, way_from


def is_ring(tree, stand, lot, thing):
    """Whether any value is a ring of the stand and the lot."""
    need_all(tree, stand, lot)
    return makes_ring(tree, stand, lot, thing)


def greatest_ring(tree, stand, lot):
    """The greatest ring of the stand and the lot, () if there is none."""
    need_all(tree, stand, lot)
    return greatest_of(tree, stand, lot)


def inner_rings(tree, stand, lot):
    """The set of all inner rings of the stand and the lot."""
    need_all(tree, stand, lot)
    return inner_of(tree, stand, lot)


def makes_ring(tree, stand, moves, thing):
    """Whether any value is a ring of the stand and these moves."""
    if not has_folders(tree, thing) or thing == ():
        return False
    parents = parents_of(tree)
    full = full_of(tree, stand)
    if not all([name in full for name in thing]) or uppermost(parents, thing) != thing:
        return False
    crossed = []
    for source, target in moves:
        leaves = [name for name in entered_between(parents, target, source) if name in thing]
        enters = [name for name in entered_between(parents, source, target) if name in thing]
        if (leaves == []) != (enters == []):
            return False
        crossed.extend(leaves + enters)
    return all([name in crossed for name in thing])


def greatest_of(tree, stand, moves):
    """The greatest ring of the stand and these moves, () if there is none."""
    parents = parents_of(tree)
    return uppermost(parents, possible(full_of(tree, stand), both_ways(parents, moves)))


def inner_of(tree, stand, moves):
    """The set of all inner rings of the stand and these moves."""
    return inner_among(parents_of(tree), full_of(tree, stand), moves)


def inner_among(parents, full, moves):
    """The set of those rings of these full folders, and of no others, that have none of them within."""
    pairs = both_ways(parents, moves)
    names = possible(full, pairs)
    rings = [uppermost(parents, grown(name, names, pairs)) for name in names]
    return tuple(sorted(set([ring for ring in rings if is_least(parents, ring, rings)])))


def both_ways(parents, moves):
    """For each of these moves, and each turned about, the folders around its source and those around its target."""
    return [(way_from(parents, source), way_from(parents, target)) for source, target in [*moves, *turned_about(moves)]]


def uppermost(parents, names):
    """The set of those of the folders that lie in no other one of them."""
    return tuple(sorted([name for name in names if not meets(way_from(parents, parents[name]), names)]))


def meets(way, names):
    """Whether one of these names is on the way."""
    return any([name in names for name in way])


def possible(full, pairs):
    """The folders of all rings, and of the other full ones those that can stay beside them.

    Where a move would have just one spot within these folders, none around that spot is in a ring.
    """
    names = [name for name in full if any([name in way and name not in other for way, other in pairs])]
    lost = names
    while lost != []:
        lost = [name for way, other in pairs if not meets(other, names) for name in way if name in names]
        names = [name for name in names if name not in lost]
    return names


def grown(name, names, pairs):
    """Folders, this one and others of these names, within which the least ring that takes it in has all its spots."""
    chosen = [name]
    more = missing(chosen, names, pairs)
    while more is not None:
        chosen.append(more)
        more = missing(chosen, names, pairs)
    return chosen


def missing(chosen, names, pairs):
    """The innermost of these names around a spot not within the chosen folders, where a move's other spot is."""
    for way, other in pairs:
        if meets(way, chosen) and not meets(other, chosen):
            return [name for name in other if name in names][0]
    return None


def is_least(parents, ring, rings):
    """Whether no other one of the rings has all its folders within folders of this one."""
    return not any([other != ring and all([meets(way_from(parents, name), ring) for name in other])
                    for other in rings])
