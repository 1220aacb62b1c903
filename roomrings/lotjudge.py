"""Papers that tell whether a lot can be made, judged."""

from roomrings.ends import overfull_at_end
from roomrings.errors import InvalidPaper
from roomrings.lotchecker import need_all
from roomrings.moving import goes
from roomrings.rings import makes_ring
from roomrings.ways import counts_after, without_one


def lets_all(tree, stand, lot, thing):
    """Whether some order goes, as a paper shows; InvalidPaper for any value that is no paper of the lot."""
    need_all(tree, stand, lot)
    fault = paper_fault(tree, stand, lot, thing)
    if fault is not None:
        raise InvalidPaper(fault[0], fault[1])
    return thing[0] == "order"


def paper_fault(tree, stand, lot, thing):
    """The word and the place of what is wrong first in any value as a paper, None for a paper of the lot."""
    if not isinstance(thing, tuple) or len(thing) != 2:
        return ("shape", -1)
    word, shown = thing
    if word == "order" and isinstance(shown, tuple):
        return order_fault(tree, stand, lot, shown)
    if word == "ring":
        return None if makes_ring(tree, stand, lot, shown) else ("ring", -1)
    if word == "end":
        return None if shown in overfull_at_end(tree, stand, lot) else ("end", -1)
    return ("shape", -1)


def order_fault(tree, stand, lot, moves):
    """The first fault of a tuple of any values as an order of a lot that goes."""
    left = lot
    for k, move in enumerate(moves):
        if move not in left or not goes(tree, stand, move):
            return ("move", k)
        left = without_one(left, move)
        stand = counts_after(tree, stand, [move])
    return None if left == () else ("lot", -1)
