"""What events and logs are."""

from roomrings.kinds import is_move
from roomrings.lotchecker import lot_fault
from roomrings.standchecker import stand_fault
from roomrings.treechecker import tree_fault

EVENT_WORDS = ("go", "out", "in")


def is_event(thing):
    """Whether any value is an event by form, whatever moves there are."""
    if not isinstance(thing, tuple) or len(thing) != 3:
        return False
    return thing[0] in EVENT_WORDS and is_move(thing[1:])


def is_log(thing):
    """Whether any value is a log, its events possible or not."""
    if not isinstance(thing, tuple) or len(thing) == 0 or not is_beginning(thing[0]):
        return False
    return all([is_event(event) for event in thing[1:]])


def is_beginning(thing):
    """Whether any value is the word moving with a tree, a stand of it and a lot of this stand."""
    if not isinstance(thing, tuple) or len(thing) != 4 or thing[0] != "moving":
        return False
    tree, stand, lot = thing[1:]
    if tree_fault(tree) is not None or stand_fault(tree, stand) is not None:
        return False
    return lot_fault(tree, stand, lot) is None
