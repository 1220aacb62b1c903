"""Plain second readings of the document, slow and by its words, and random values to try them with."""

import itertools
import string

SIX = ('a', 'ab', 'b', 'cd', 'e', 'zz')
MANY_NAMES = [first + second for first in 'abcdefgh' for second in 'mnop']


def is_plain_name(thing):
    return thing.__class__ is str and len(thing) in range(1, 9) and set(thing) <= set(string.ascii_lowercase)


def is_plain_number(thing):
    return thing.__class__ is int and thing >= 0


def around(tree, spot):
    """The folders around a spot, the innermost one first."""
    if spot == '':
        return []
    (parent,) = [row[1] for row in tree if row[0] == spot]
    return [spot] + around(tree, parent)


def uses(tree, stand, folder):
    return sum(many for row, many in zip(tree, stand) if folder in around(tree, row[0]))


def tree_fault(thing):
    if thing.__class__ is not tuple or not thing:
        return 'shape', -1
    for k, row in enumerate(thing):
        good = (row.__class__ is tuple and len(row) == 3 and is_plain_name(row[0])
                and (row[1] == '' if row[1].__class__ is str and not row[1] else is_plain_name(row[1]))
                and row[0] != row[1] and is_plain_number(row[2]))
        if not good or (k and not thing[k - 1][0] < row[0]):
            return 'folder', k
    names = {row[0]: row[1] for row in thing}
    for k, row in enumerate(thing):
        if row[1] and row[1] not in names:
            return 'parent', k
    for k, row in enumerate(thing):
        met, name = set(), row[0]
        while name and name not in met:
            met.add(name)
            name = names[name]
        if name:
            return 'within', k
    return None


def stand_fault(tree, thing):
    if thing.__class__ is not tuple or len(thing) != len(tree):
        return 'shape', -1
    for k, many in enumerate(thing):
        if not is_plain_number(many):
            return 'count', k
    for name, _, room in tree:
        if uses(tree, thing, name) > room:
            return 'full', name
    return None


def is_plain_spot(tree, thing):
    return thing.__class__ is str and thing in ['', *[row[0] for row in tree]]


def is_plain_move(tree, thing):
    return (thing.__class__ is tuple and len(thing) == 2 and is_plain_spot(tree, thing[0])
            and is_plain_spot(tree, thing[1]) and thing[0] != thing[1])


def lot_fault(tree, stand, thing):
    if thing.__class__ is not tuple:
        return 'shape', -1
    for k, move in enumerate(thing):
        if not is_plain_move(tree, move) or (k and thing[k - 1] > move):
            return 'move', k
    for (name, _, _), many in zip(tree, stand):
        if len([move for move in thing if move[0] == name]) > many:
            return 'files', name
    return None


def some_tree(pick, names=SIX, most=4):
    """A random tree; each folder lies in none, or in one that was put there before it."""
    chosen = pick.sample(names, pick.randrange(1, len(names) + 1))
    rows = [(name, pick.choice(['', *chosen[:k]]), pick.randrange(most)) for k, name in enumerate(chosen)]
    return tuple(sorted(rows))


def some_stand(pick, tree):
    """A random stand of a tree, filled file by file."""
    counts = [0] * len(tree)
    for _ in range(pick.randrange(3 * len(tree))):
        k = pick.randrange(len(tree))
        tried = [*counts[:k], counts[k] + 1, *counts[k + 1:]]
        if stand_fault(tree, tuple(tried)) is None:
            counts = tried
    return tuple(counts)


def some_moves(pick, tree, most=8):
    """A random sorted tuple of moves between spots of a tree."""
    spots = ['', *[row[0] for row in tree]]
    return tuple(sorted(tuple(pick.sample(spots, 2)) for _ in range(pick.randrange(most))))


def some_lot(pick, tree, stand):
    """A random lot of a stand."""
    lot = list(some_moves(pick, tree))
    while lot_fault(tree, stand, tuple(lot)) is not None:
        lot.pop(pick.randrange(len(lot)))
    return tuple(lot)


def broken(pick, thing, odd):
    """A random value near this one: somewhere in it, at any depth, a part is left out, put twice or another one."""
    if thing.__class__ is not tuple or not thing or pick.random() < 0.2:
        return pick.choice(odd)
    k = pick.randrange(len(thing))
    way = pick.randrange(6)
    if way == 0:
        return thing[:k] + thing[k + 1:]
    if way == 1:
        return thing[:k] + thing[k:k + 1] + thing[k:]
    if way == 2:
        return thing[::-1]
    return (*thing[:k], broken(pick, thing[k], odd), *thing[k + 1:])


def entered(tree, move):
    source, target = move
    return [name for name in around(tree, target) if name not in around(tree, source)]


def left_by(tree, move):
    return entered(tree, move[::-1])


def places(tree, stand):
    """How many free places each folder has."""
    return {name: room - uses(tree, stand, name) for name, _, room in tree}


def full(tree, stand):
    return [name for name, many in places(tree, stand).items() if many == 0]


def lying(tree, stand, spot):
    """How many files lie in a spot directly; outside there is always one."""
    return dict(zip([row[0] for row in tree], stand)).get(spot, 1)


def can_go(tree, stand, move):
    free = places(tree, stand)
    return lying(tree, stand, move[0]) > 0 and all(free[name] > 0 for name in entered(tree, move))


def after(tree, stand, move):
    """What lies in each folder after a move, whether it can go or not."""
    source, target = move
    return tuple(many - (row[0] == source) + (row[0] == target) for row, many in zip(tree, stand))


def at_end(tree, stand, lot):
    for move in lot:
        stand = after(tree, stand, move)
    return stand


def crowded(tree, counts):
    return tuple(row[0] for row in tree if uses(tree, counts, row[0]) > row[2])


def less(lot, move):
    """The moves with one of them once less."""
    lot = list(lot)
    lot.remove(move)
    return tuple(lot)


def some_order(tree, stand, lot):
    """An order that goes, looked for among all; None if there is none."""
    dead = set()

    def look(now, left):
        if not left:
            return ()
        if left in dead:
            return None
        for move in sorted(set(left)):
            if can_go(tree, now, move):
                rest = look(after(tree, now, move), less(left, move))
                if rest is not None:
                    return move, *rest
        dead.add(left)
        return None

    return look(stand, tuple(lot))


def first_refused(tree, stand, order):
    """The index of the first move that cannot go, None if all can."""
    for k, move in enumerate(order):
        if not can_go(tree, stand, move):
            return k
        stand = after(tree, stand, move)
    return None


def is_ring(tree, stand, lot, names):
    """Whether a set of folders is a ring, word by word."""
    filled = full(tree, stand)
    if not names or any(name not in filled for name in names):
        return False
    if any(name != other and name in around(tree, other) for name in names for other in names):
        return False
    crossed = set()
    for move in lot:
        out = [name for name in left_by(tree, move) if name in names]
        inward = [name for name in entered(tree, move) if name in names]
        if out or inward:
            if not out or not inward:
                return False
            crossed.update(out, inward)
    return crossed == set(names)


def all_rings(tree, stand, lot):
    """All rings, found among all sets of folders."""
    names = [row[0] for row in tree]
    sets = [tuple(name for k, name in enumerate(names) if code >> k & 1) for code in range(1 << len(names))]
    return [names for names in sets if is_ring(tree, stand, lot, names)]


def is_under(tree, ring, other):
    """Whether each folder of a ring is within a folder of another one."""
    return all(any(above in other for above in around(tree, name)) for name in ring)


def greatest(tree, rings):
    for ring in rings:
        if all(is_under(tree, other, ring) for other in rings):
            return ring
    return ()


def inner(tree, rings):
    return tuple(sorted(ring for ring in rings
                        if not any(other != ring and is_under(tree, other, ring) for other in rings)))


def some_case(pick, names=SIX[:4], most=6):
    """A random tree with little room, a stand of it, and a lot of this stand, in which files often change places."""
    chosen = pick.sample(names, pick.randrange((len(names) + 1) // 2, len(names) + 1))
    shape = sorted((name, pick.choice(['', '', *chosen[:k]])) for k, name in enumerate(chosen))
    stand = tuple(pick.choice((0, 1, 1, 1, 2)) for _ in shape)
    wide = tuple((*row, 0) for row in shape)
    slack = pick.choice(((0,), (0,), (0, 0, 0, 0, 1), (0, 1, 2)))
    tree = tuple((*row, uses(wide, stand, row[0]) + pick.choice(slack)) for row in shape)
    spots = [*chosen, *chosen, '']
    lot = ()
    for _ in range(pick.randrange(6)):
        round_about = pick.sample(spots, min(len(spots), pick.choice((2, 2, 3, 3, 4))))
        for move in list(zip(round_about, [*round_about[1:], round_about[0]]))[pick.choice((0, 0, 0, 0, 1)):]:
            longer = tuple(sorted([*lot, move]))
            if len(lot) < most and lot_fault(tree, stand, longer) is None:
                lot = longer
    return tree, stand, lot


def some_fitting(pick, names=SIX[:4], most=6):
    """Such a random tree, stand and lot whose end fits."""
    while True:
        tree, stand, lot = some_case(pick, names, most)
        if not crowded(tree, at_end(tree, stand, lot)):
            return tree, stand, lot


def some_earlier(pick, names=SIX[:4], most=6):
    """Such a random tree, stand and lot, as they were ahead of one more move, often one after which there is a ring."""
    while True:
        tree, stand, lot = some_fitting(pick, names, most)
        source, target = pick.sample(['', *[row[0] for row in tree]], 2)
        before, longer = after(tree, stand, (target, source)), tuple(sorted([*lot, (source, target)]))
        good = stand_fault(tree, before) is None and lot_fault(tree, before, longer) is None
        if good and (all_rings(tree, stand, lot) or pick.random() < 0.1):
            return tree, before, longer


def step_taken(tree, state, step):
    """What is left, what is away, and the stand after a step; None if the step is not possible then."""
    left, away, stand = state
    if step.__class__ is not tuple or len(step) != 3 or step[0].__class__ is not str:
        return None
    word, move = step[0], step[1:]
    if not is_plain_move(tree, move):
        return None
    if word == 'go' and move in left and can_go(tree, stand, move):
        return less(left, move), away, after(tree, stand, move)
    if word == 'out' and move in left and '' not in move:
        return less(left, move), tuple(sorted([*away, move])), after(tree, stand, (move[0], ''))
    # from outside it enters all folders around its target
    if word == 'in' and move in away and can_go(tree, stand, ('', move[1])):
        return left, less(away, move), after(tree, stand, ('', move[1]))
    return None


def fewest_outs(tree, stand, lot):
    """The least number of steps "out" of a plan, looked for among all plans; None if there is no plan."""
    ahead, outs = [(tuple(lot), (), stand)], 0
    met = set()
    while ahead:
        later = []
        while ahead:
            state = ahead.pop()
            if state in met:
                continue
            met.add(state)
            left, away, _ = state
            if not left and not away:
                return outs
            for step in [(word, *move) for word, moves in (('go', left), ('out', left), ('in', away))
                         for move in set(moves)]:
                found = step_taken(tree, state, step)
                if found is not None:
                    (later if step[0] == 'out' else ahead).append(found)
        ahead, outs = later, outs + 1
    return None


def some_stuck(pick, names=SIX, most=8):
    """A random deep tree whose folders are nearly all full, a stand of it, and a lot of rounds of moves among them."""
    names = sorted(pick.sample(names, pick.randrange(len(names) - 1, len(names) + 1)))
    mixed = pick.sample(names, len(names))
    shape = sorted((name, pick.choice(['', *mixed[:k], *mixed[max(0, k - 2):k]])) for k, name in enumerate(mixed))
    stand = tuple(pick.choice((1, 1, 1, 2)) for _ in shape)
    wide = tuple((*row, 0) for row in shape)
    tree = tuple((*row, uses(wide, stand, row[0]) + (pick.random() < 0.1)) for row in shape)
    lot = ()
    for _ in range(pick.randrange(2, 5)):
        round_about = pick.sample(names, min(len(names), pick.choice((2, 2, 2, 3))))
        longer = tuple(sorted([*lot, *zip(round_about, [*round_about[1:], round_about[0]])]))
        if len(longer) <= most and lot_fault(tree, stand, longer) is None:
            lot = longer
    return tree, stand, lot


def wider(tree, folders):
    """The tree in which each of the folders has one place more."""
    return tuple((*row[:2], row[2] + (row[0] in folders)) for row in tree)


def most_apart(rings):
    """How many of these rings there are at most no two of which have a folder in common."""
    if not rings:
        return 0
    first, *others = rings
    return max(most_apart(others), 1 + most_apart([ring for ring in others if not set(ring) & set(first)]))


def fewest_wider(tree, barred):
    """The least number of folders such that nothing is barred in the tree in which they are widened."""
    names = [row[0] for row in tree]
    return next(many for many in range(len(names) + 1)
                if any(not barred(wider(tree, folders)) for folders in itertools.combinations(names, many)))


def is_word(thing, word):
    return thing.__class__ is str and thing == word


def order_fault(tree, stand, lot, moves):
    left = list(lot)
    for k, move in enumerate(moves):
        if not is_plain_move(tree, move) or move not in left or not can_go(tree, stand, move):
            return 'move', k
        left.remove(move)
        stand = after(tree, stand, move)
    return ('lot', -1) if left else None


def is_set_of_names(tree, thing):
    names = [row[0] for row in tree]
    return (thing.__class__ is tuple and all(name.__class__ is str and name in names for name in thing)
            and list(thing) == sorted(set(thing)))


def asked_fault(tree, stand, lot, thing):
    """What is wrong first in a value as moves that are asked, by the words of the document; None for such moves."""
    if thing.__class__ is not tuple:
        return 'shape', -1
    left = list(lot)
    for k, move in enumerate(thing):
        if not is_plain_move(tree, move) or move not in left or (k and move < thing[k - 1]):
            return 'move', k
        left.remove(move)
    for name, _, room in tree:
        if held(tree, stand, thing, name) > room:
            return 'full', name
    return None


def held(tree, stand, asked, folder):
    """How many places of a folder are used, and held by moves that are asked."""
    return uses(tree, stand, folder) + len([move for move in asked if folder in entered(tree, move)])


def ask_taken(tree, state, step):
    """What is not asked, what is asked, and the stand after a step "ask" or "done"; None if it is not possible."""
    left, asked, stand = state
    word, move = step[0], step[1:]
    rooms = {row[0]: row[2] for row in tree}
    if word == 'ask' and move in left and all(held(tree, stand, asked, name) < rooms[name]
                                              for name in entered(tree, move)):
        return less(left, move), tuple(sorted([*asked, move])), stand
    if word == 'done' and move in asked:
        return left, less(asked, move), after(tree, stand, move)
    return None


def can_finish(tree, state):
    """Whether all moves can be asked and done, looked for among all steps."""
    ahead, met = [state], {state}
    while ahead:
        state = ahead.pop()
        if not state[0] and not state[1]:
            return True
        for step in [('ask', *move) for move in set(state[0])] + [('done', *move) for move in set(state[1])]:
            later = ask_taken(tree, state, step)
            if later is not None and later not in met:
                met.add(later)
                ahead.append(later)
    return False


def some_asked(pick, tree, stand, lot):
    """Random moves of a lot that can be asked."""
    asked = ()
    for move in pick.sample(lot, pick.randrange(len(lot) + 1)):
        longer = tuple(sorted([*asked, move]))
        if asked_fault(tree, stand, lot, longer) is None:
            asked = longer
    return asked


def is_event(thing):
    """Whether a value is an event by form."""
    def is_spot(spot):
        return is_plain_name(spot) or is_word(spot, '')
    return (thing.__class__ is tuple and len(thing) == 3 and any(is_word(thing[0], word) for word in ('go', 'out', 'in'))
            and is_spot(thing[1]) and is_spot(thing[2]) and thing[1] != thing[2])


def is_log(thing):
    """Whether a value is a log, by the words of the document."""
    if thing.__class__ is not tuple or not thing or thing[0].__class__ is not tuple or len(thing[0]) != 4:
        return False
    word, tree, stand, lot = thing[0]
    good = (is_word(word, 'moving') and not tree_fault(tree) and not stand_fault(tree, stand)
            and not lot_fault(tree, stand, lot))
    return good and all(is_event(event) for event in thing[1:])


def rest_of(left, away):
    """What is to be done yet: the moves that are left, and one from outside for each file that was put there."""
    return tuple(sorted([*left, *[('', target) for _, target in away]]))


def state_of(tree, stand, rest):
    if not rest:
        return 'done'
    if crowded(tree, at_end(tree, stand, rest)):
        return 'end'
    return 'ring' if all_rings(tree, stand, rest) else 'going'


class Walk:
    """A second moving: what it is now is found anew from its events each time."""

    def __init__(self, tree, stand, lot, is_guarded=False):
        self.tree, self.start, self.is_guarded = tree, (lot, (), stand), is_guarded
        self.events, self.is_shut, self.calls = [], False, 0

    def course(self, *more):
        """What is left, what is away, and the stand, after these events, too."""
        state = self.start
        for event in [*self.events, *more]:
            state = step_taken(self.tree, state, event)
        return state

    def ring(self, *more):
        left, away, stand = self.course(*more)
        return greatest(self.tree, all_rings(self.tree, stand, rest_of(left, away)))

    def shown(self, *more):
        """Stand, rest and state after these events, too."""
        left, away, stand = self.course(*more)
        rest = rest_of(left, away)
        return stand, rest, state_of(self.tree, stand, rest)

    def reason(self, event, *ahead):
        """The reason for which a value is refused after these events, None for one that is possible."""
        if not is_event(event):
            return 'shape'
        if self.is_shut:
            return 'closed'
        if len(self.events) + len(ahead) >= 40:
            return 'full'
        left, away, stand = self.course(*ahead)
        word, *move = event
        if tuple(move) not in (away if word == 'in' else left) or (word == 'out' and '' in move):
            return 'none'
        if step_taken(self.tree, (left, away, stand), event) is None:
            return 'room'
        return 'ring' if self.is_guarded and word != 'out' and self.ring(*ahead, event) else None

    def refused(self, events):
        """The index of the first of these events that is refused, and its reason; None if none is."""
        for k, event in enumerate(events):
            why = self.reason(event, *events[:k])
            if why is not None:
                return k, why
        return None

    def log(self):
        lot, _, stand = self.start
        return ('moving', self.tree, stand, lot), *self.events


def some_event(pick, walk, odd=()):
    """A random event: often one of a move that is left or away, sometimes another one, or an odd value."""
    left, away, _ = walk.course()
    spots = ['', *[row[0] for row in walk.tree]]
    way = pick.random()
    if odd and way < 0.05:
        return pick.choice(odd)
    if away and way < 0.5:
        return ('in', *pick.choice(away))
    if left and way < 0.95:
        return (pick.choice(('go', 'go', 'out')), *pick.choice(left))
    return (pick.choice(('go', 'out', 'in')), *pick.sample(spots, 2))
