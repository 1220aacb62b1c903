"""Plain second readings of texts, word by word as the document tells."""

import re

import plain

NUMBER = '(0|[1-9][0-9]{0,59})'
SPOT = '(-|[a-z]{1,8})'
TAIL = ('folder', 'zzzzzzzz', 'in', '-', 'room', '0')


def line_fault(words, last):
    """A word cannot stand if the line is not possible whatever is behind it."""
    for many in range(1, len(words) + 1):
        text = ' '.join([*words[:many], *TAIL[many:]])
        found = re.fullmatch(f'folder ([a-z]{{1,8}}) in {SPOT} room {NUMBER}', text)
        if not found or not found[1] > last or found[1] == found[2]:
            return many - 1
    return len(words) if len(words) < 6 else None


def tree_text_fault(text):
    last, rows = '', []
    for line, written in enumerate(text.split('\n')):
        field = line_fault(written.split(' '), last)
        if field is not None:
            return line, field
        last = written.split(' ')[1]
        rows.append((last, written.split(' ')[3].replace('-', ''), int(written.split(' ')[5])))
    found = plain.tree_fault(tuple(rows))
    return (found[1], 3) if found else tuple(rows)


def lot_of(text):
    """The lot that a text writes, None if it writes none."""
    if text == '-':
        return ()
    if not re.fullmatch(f'{SPOT}>{SPOT}( {SPOT}>{SPOT})*', text):
        return None
    moves = tuple(tuple(word.replace('-', '').split('>')) for word in text.split(' '))
    return moves if sorted(moves) == list(moves) and all(source != target for source, target in moves) else None


def lot_text_fault(text):
    words = text.split(' ')
    for many in range(1, len(words) + 1):
        if lot_of(' '.join(words[:many])) is None:
            return 0, many - 1
    return lot_of(text)


def changed(pick, text):
    """A text with some signs or words more, less, or others."""
    for _ in range(pick.randrange(1, 3)):
        k = pick.randrange(len(text) + 1)
        way = pick.randrange(4)
        if way == 0:
            text = text[:k] + pick.choice(' \n->0123abtopzA') + text[k:]
        elif way == 1:
            text = text[:k] + text[k + 1:]
        elif way == 2:
            text = text[:k] + pick.choice(' \n->0123abtopzA') + text[k + 1:]
        else:
            words = text.split(' ')
            words.insert(pick.randrange(len(words) + 1), pick.choice([*words, '', '-', '01', 'a', 'a>b']))
            text = ' '.join(words)
    return text


def is_fault(found):
    """Whether what a reading gave is the place of a fault: line and field."""
    return found.__class__ is tuple and len(found) == 2 and found[0].__class__ is int


def words_fault(words, forms):
    """The first word that cannot stand, or the number of words if one is missing; None if there is none."""
    for field, word in enumerate(words):
        if field >= len(forms) or not re.fullmatch(forms[field], word):
            return field
    return len(words) if len(words) < len(forms) else None


def event_text_fault(line):
    """The event that a line writes, or the place of the fault."""
    words = line.split(' ')
    field = words_fault(words, ['go|out|in', f'{SPOT}>{SPOT}'])
    if field is None and lot_of(words[1]) is None:
        field = 1
    if field == 2 and lot_of(words[1]) is None:
        field = 1
    return (0, field) if field is not None else (words[0], *lot_of(words[1])[0])


def stand_text_fault(line):
    """The tuple of numbers that a line writes, or the place of the fault in a pair with 0."""
    words = line.split(' ')
    for field, word in enumerate(words):
        if not re.fullmatch(NUMBER, word):
            return [0, field]
    return tuple(int(word) for word in words)


def log_text_fault(lines):
    """The log that lines write, or the place of the fault."""
    words = (lines or [''])[0].split(' ')
    field = words_fault(words, ['moving', '[1-9][0-9]{0,59}'])
    if field is not None:
        return 0, field
    many = int(words[1])
    if len(lines) < many + 3:
        return len(lines), 0
    tree = tree_text_fault('\n'.join(lines[1:many + 1]))
    if is_fault(tree):
        return tree[0] + 1, tree[1]
    stand = stand_text_fault(lines[many + 1])
    if stand.__class__ is list:
        return many + 1, stand[1]
    lot = lot_text_fault(lines[many + 2])
    if is_fault(lot):
        return many + 2, lot[1]
    events = []
    for k, line in list(enumerate(lines))[many + 3:]:
        event = event_text_fault(line)
        if is_fault(event):
            return k, event[1]
        events.append(event)
    return ('moving', tree, stand, lot), *events
