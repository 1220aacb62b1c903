"""Folders that need one place more, so that all moves of a lot can be made.

With one place more a folder is not full, and so in no ring any more: what counts is to meet each ring.
"""

from roomrings.ends import need_end
from roomrings.lotchecker import need_all
from roomrings.rings import inner_among
from roomrings.ways import full_of, parents_of


def fewest_widened(tree, stand, lot):
    """Any set of folders, as few as can be, with one place more in each of which some order of a lot goes."""
    need_all(tree, stand, lot)
    need_end(tree, stand, lot)
    return widened_of(tree, stand, lot)


def rings_apart(tree, stand, lot):
    """Any ascending tuple of rings, as many as can be, no two of which have a folder in common."""
    need_all(tree, stand, lot)
    need_end(tree, stand, lot)
    return apart_of(tree, stand, lot)


def apart_of(tree, stand, moves):
    """As many rings of the stand and these moves as can be, no two of which have a folder in common."""
    return apart_among(parents_of(tree), full_of(tree, stand), moves)


def apart_among(parents, full, moves):
    """As many such rings as can be, of these full folders and no others.

    The inner ones come first. Where several of the most rings that can be meet an inner ring, all of them are around
    it. Two of them give way to the ring of their lower folders and that of their upper ones, and so on, until just
    the lowest one meets the inner ring, which can be put in its place: so no ring is lost by taking it.
    """
    rings = []
    inner = inner_among(parents, full, moves)
    while inner != ():
        rings.extend(inner)
        full = [name for name in full if not any([name in ring for ring in inner])]
        inner = inner_among(parents, full, moves)
    return tuple(sorted(rings))


def widened_of(tree, stand, moves):
    """As few folders as can be that meet each ring of the stand and these moves.

    They are as many as there are rings apart from one another. So a folder belongs to such folders if without it
    there is one ring less; if it does not at first, it never does.
    """
    parents = parents_of(tree)
    left = full_of(tree, stand)
    many = len(apart_among(parents, left, moves))
    widened = []
    for name in full_of(tree, stand):
        others = [other for other in left if other != name]
        if len(apart_among(parents, others, moves)) < many:
            widened.append(name)
            left = others
            many = many - 1
    return tuple(widened)
