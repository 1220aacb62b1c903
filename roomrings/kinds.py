"""What values are by form, whatever tree or stand they are meant for."""

LONGEST_NAME = 8


def is_integer(thing):
    """Whether any value is an integer; a bool is none."""
    return isinstance(thing, int) and not isinstance(thing, bool)


def is_number(thing):
    """Whether any value is an integer that is at least 0."""
    return is_integer(thing) and thing >= 0


def is_name(thing):
    """Whether any value is a string of one to eight lowercase letters."""
    if not isinstance(thing, str) or len(thing) > LONGEST_NAME:
        return False
    # islower alone would let other signs stand between letters, and letters beyond a to z
    return thing.isascii() and thing.isalpha() and thing.islower()


def is_spot(thing):
    """Whether any value is a name or the empty string."""
    return is_name(thing) or (isinstance(thing, str) and thing == "")


def is_folder(thing):
    """Whether any value is a triple of a name, another spot and a number."""
    if not isinstance(thing, tuple) or len(thing) != 3:
        return False
    name, parent, room = thing
    return is_name(name) and is_spot(parent) and parent != name and is_number(room)


def is_move(thing):
    """Whether any value is a pair of unlike spots."""
    if not isinstance(thing, tuple) or len(thing) != 2:
        return False
    source, target = thing
    return is_spot(source) and is_spot(target) and source != target


def is_moves(thing):
    """Whether any value is a sorted tuple of moves, equal ones perhaps."""
    if not isinstance(thing, tuple) or not all([is_move(move) for move in thing]):
        return False
    return list(thing) == sorted(thing)


def is_bulk(thing):
    """Whether any value is a triple of two unlike spots and a number of at least 1."""
    if not isinstance(thing, tuple) or len(thing) != 3:
        return False
    return is_move(thing[:2]) and is_number(thing[2]) and thing[2] >= 1
