"""Papers that tell whether a lot can be made."""

from roomrings.ends import overfull_at_end
from roomrings.goers import order_of
from roomrings.lotchecker import need_all
from roomrings.rings import greatest_of


def lot_paper(tree, stand, lot):
    """A paper with an order of a lot that goes, or with what bars the lot."""
    need_all(tree, stand, lot)
    crowded = overfull_at_end(tree, stand, lot)
    if crowded != ():
        return ("end", crowded[0])
    ring = greatest_of(tree, stand, lot)
    if ring != ():
        return ("ring", ring)
    return ("order", order_of(tree, stand, lot))
