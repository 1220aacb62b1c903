"""Plain second readings of the document, slow and by its words, and random values to try them with."""

import string

SIX = ('a', 'ab', 'b', 'cd', 'e', 'zz')
MANY_NAMES = [first + second for first in 'abcdefgh' for second in 'mnop']


def is_plain_name(thing):
    return thing.__class__ is str and len(thing) in range(1, 9) and set(thing) <= set(string.ascii_lowercase)


def is_plain_number(thing):
    return thing.__class__ is int and thing >= 0


def around(tree, spot):
    """The folders around a spot, the innermost one first."""
    if spot == '':
        return []
    (parent,) = [row[1] for row in tree if row[0] == spot]
    return [spot] + around(tree, parent)


def uses(tree, stand, folder):
    return sum(many for row, many in zip(tree, stand) if folder in around(tree, row[0]))


def tree_fault(thing):
    if thing.__class__ is not tuple or not thing:
        return 'shape', -1
    for k, row in enumerate(thing):
        good = (row.__class__ is tuple and len(row) == 3 and is_plain_name(row[0])
                and (row[1] == '' if row[1].__class__ is str and not row[1] else is_plain_name(row[1]))
                and row[0] != row[1] and is_plain_number(row[2]))
        if not good or (k and not thing[k - 1][0] < row[0]):
            return 'folder', k
    names = {row[0]: row[1] for row in thing}
    for k, row in enumerate(thing):
        if row[1] and row[1] not in names:
            return 'parent', k
    for k, row in enumerate(thing):
        met, name = set(), row[0]
        while name and name not in met:
            met.add(name)
            name = names[name]
        if name:
            return 'within', k
    return None


def stand_fault(tree, thing):
    if thing.__class__ is not tuple or len(thing) != len(tree):
        return 'shape', -1
    for k, many in enumerate(thing):
        if not is_plain_number(many):
            return 'count', k
    for name, _, room in tree:
        if uses(tree, thing, name) > room:
            return 'full', name
    return None


def is_plain_spot(tree, thing):
    return thing.__class__ is str and thing in ['', *[row[0] for row in tree]]


def is_plain_move(tree, thing):
    return (thing.__class__ is tuple and len(thing) == 2 and is_plain_spot(tree, thing[0])
            and is_plain_spot(tree, thing[1]) and thing[0] != thing[1])


def lot_fault(tree, stand, thing):
    if thing.__class__ is not tuple:
        return 'shape', -1
    for k, move in enumerate(thing):
        if not is_plain_move(tree, move) or (k and thing[k - 1] > move):
            return 'move', k
    for (name, _, _), many in zip(tree, stand):
        if len([move for move in thing if move[0] == name]) > many:
            return 'files', name
    return None


def some_tree(pick, names=SIX, most=4):
    """A random tree; each folder lies in none, or in one that was put there before it."""
    chosen = pick.sample(names, pick.randrange(1, len(names) + 1))
    rows = [(name, pick.choice(['', *chosen[:k]]), pick.randrange(most)) for k, name in enumerate(chosen)]
    return tuple(sorted(rows))


def some_stand(pick, tree):
    """A random stand of a tree, filled file by file."""
    counts = [0] * len(tree)
    for _ in range(pick.randrange(3 * len(tree))):
        k = pick.randrange(len(tree))
        tried = [*counts[:k], counts[k] + 1, *counts[k + 1:]]
        if stand_fault(tree, tuple(tried)) is None:
            counts = tried
    return tuple(counts)


def some_moves(pick, tree, most=8):
    """A random sorted tuple of moves between spots of a tree."""
    spots = ['', *[row[0] for row in tree]]
    return tuple(sorted(tuple(pick.sample(spots, 2)) for _ in range(pick.randrange(most))))


def some_lot(pick, tree, stand):
    """A random lot of a stand."""
    lot = list(some_moves(pick, tree))
    while lot_fault(tree, stand, tuple(lot)) is not None:
        lot.pop(pick.randrange(len(lot)))
    return tuple(lot)


def broken(pick, thing, odd):
    """A random value near this one: somewhere in it, at any depth, a part is left out, put twice or another one."""
    if thing.__class__ is not tuple or not thing or pick.random() < 0.2:
        return pick.choice(odd)
    k = pick.randrange(len(thing))
    way = pick.randrange(6)
    if way == 0:
        return thing[:k] + thing[k + 1:]
    if way == 1:
        return thing[:k] + thing[k:k + 1] + thing[k:]
    if way == 2:
        return thing[::-1]
    return (*thing[:k], broken(pick, thing[k], odd), *thing[k + 1:])
