"""Trees, stands, moves and lots as texts."""

from roomrings.errors import NotUsable
from roomrings.kinds import is_move, is_moves, is_number
from roomrings.treechecker import need_tree


def tree_text(tree):
    """The lines of the folders of a tree, with newlines between."""
    need_tree(tree)
    lines = [f"folder {name} in {spot_word(parent)} room {room}" for name, parent, room in tree]
    return "\n".join(lines)


def stand_words(stand):
    """The words of the numbers of a stand, or of any tuple of one or more numbers."""
    if not isinstance(stand, tuple) or len(stand) == 0 or not all([is_number(many) for many in stand]):
        raise NotUsable("stand", -1)
    return " ".join([str(many) for many in stand])


def move_words(move):
    """The word of a move by form."""
    if not is_move(move):
        raise NotUsable("move", move)
    return move_word(move)


def lot_words(lot):
    """The words of the moves of a sorted tuple of moves by form."""
    if not is_moves(lot):
        raise NotUsable("lot", -1)
    if lot == ():
        return "-"
    return " ".join([move_word(move) for move in lot])


def move_word(move):
    """The word of what is known to be a move by form."""
    return f"{spot_word(move[0])}>{spot_word(move[1])}"


def spot_word(spot):
    """The word of a spot."""
    return "-" if spot == "" else spot
