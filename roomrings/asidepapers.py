"""Papers that tell how few files have to be put aside."""

from roomrings.asides import plan_of
from roomrings.ends import need_end
from roomrings.lotchecker import need_all
from roomrings.rings import inner_of


def aside_paper(tree, stand, lot):
    """A paper with a plan of a lot, and with as many rings as files are put aside in it."""
    need_all(tree, stand, lot)
    need_end(tree, stand, lot)
    return ("aside", plan_of(tree, stand, lot), inner_of(tree, stand, lot))
