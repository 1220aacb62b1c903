"""Papers that tell how few folders have to be widened."""

from roomrings.ends import need_end
from roomrings.goers import order_of
from roomrings.lotchecker import need_all
from roomrings.ways import with_more_room
from roomrings.widening import apart_of, widened_of


def wide_paper(tree, stand, lot):
    """A paper with folders, as many rings, and an order of a lot that goes where each of the folders is widened."""
    need_all(tree, stand, lot)
    need_end(tree, stand, lot)
    widened = widened_of(tree, stand, lot)
    return ("widened", widened, apart_of(tree, stand, lot), order_of(with_more_room(tree, widened), stand, lot))
