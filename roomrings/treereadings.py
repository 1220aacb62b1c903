"""Trees, stands, moves and lots read from texts."""

from roomrings.errors import InvalidText, NotUsable
from roomrings.kinds import is_move, is_name
from roomrings.treechecker import parent_fault

MOST_DIGITS = 60
# The words of the line of a folder; "" is where the name, the parent and the room stand.
FOLDER_WORDS = ("folder", "", "in", "", "room", "")
NAME = 1
PARENT = 3
ROOM = 5


def tree_read(text):
    """The tree that a string writes."""
    need_text(text)
    rows = []
    last = ""
    for line, written in enumerate(text.split("\n")):
        words = written.split(" ")
        field = folder_words_fault(words, last)
        if field is not None:
            raise InvalidText(line, field)
        last = words[NAME]
        rows.append((last, spot_written(words[PARENT]), number_written(words[ROOM])))
    fault = parent_fault(rows)
    if fault is not None:
        raise InvalidText(fault[1], PARENT)
    return tuple(rows)


def stand_read(text):
    """The tuple of one or more numbers that a string writes."""
    need_text(text)
    numbers = []
    for field, word in enumerate(text.split(" ")):
        number = number_written(word)
        if number is None:
            raise InvalidText(0, field)
        numbers.append(number)
    return tuple(numbers)


def move_read(text):
    """The move by form that a string writes."""
    need_text(text)
    words = text.split(" ")
    move = move_written(words[0])
    if move is None:
        raise InvalidText(0, 0)
    if len(words) > 1:
        raise InvalidText(0, 1)
    return move


def lot_read(text):
    """The sorted tuple of moves by form that a string writes."""
    need_text(text)
    words = text.split(" ")
    if words[0] == "-":
        if len(words) > 1:
            raise InvalidText(0, 1)
        return ()
    moves = []
    for field, word in enumerate(words):
        move = move_written(word)
        if move is None or (field > 0 and move < moves[-1]):
            raise InvalidText(0, field)
        moves.append(move)
    return tuple(moves)


def need_text(text):
    """NotUsable for any value that is no string."""
    if not isinstance(text, str):
        raise NotUsable("text", -1)


def folder_words_fault(words, last):
    """The first word of the line of a folder that cannot stand, or is missing, None if there is none."""
    for field in range(len(words)):
        if not can_stand(words, field, last):
            return field
    if len(words) < len(FOLDER_WORDS):
        return len(words)
    return None


def can_stand(words, field, last):
    """Whether a word of the line of a folder can stand behind those before it, and behind the last name."""
    word = words[field]
    if field == NAME:
        return is_name(word) and word > last
    if field == PARENT:
        return spot_written(word) is not None and word != words[NAME]
    if field == ROOM:
        return number_written(word) is not None
    return field < len(FOLDER_WORDS) and word == FOLDER_WORDS[field]


def spot_written(word):
    """The spot that a word writes, None if it writes none."""
    if word == "-":
        return ""
    return word if is_name(word) else None


def number_written(word):
    """The number that a word writes, None if it writes none."""
    # isdigit alone would let digits of other scripts pass
    if not word.isascii() or not word.isdigit() or len(word) > MOST_DIGITS:
        return None
    if word[0] == "0" and word != "0":
        return None
    return int(word)


def move_written(word):
    """The move that a word writes, None if it writes none."""
    ends = word.split(">")
    if len(ends) != 2:
        return None
    move = (spot_written(ends[0]), spot_written(ends[1]))
    return move if is_move(move) else None
