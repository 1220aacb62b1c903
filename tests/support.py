"""Values and helpers that the tests share."""

import inspect
import random

import plain

from roomrings.errors import NotUsable

TREE = (('a', 'top', 2), ('b', 'top', 1), ('c', '', 1), ('top', '', 3))
STAND = (1, 1, 1, 0)
LOT = (('a', 'b'), ('b', 'c'), ('c', 'a'))
STUCK = (('a', 'top', 2), ('b', 'top', 1), ('c', '', 1), ('top', '', 2))
DEEP, FULL, SWAP = (('a', 'p', 1), ('b', 'q', 1), ('p', '', 1), ('q', '', 1)), (1, 1, 0, 0), (('a', 'b'), ('b', 'a'))
FOUR = (('a', '', 1), ('b', '', 1), ('c', '', 1), ('d', '', 1))
TWICE = (('a', 'b'), ('b', 'a'), ('c', 'd'), ('d', 'c'))
NEAR, BOTH, LATE = (('a', '', 1), ('b', '', 1)), (1, 1), (('', 'a'), ('a', 'b'), ('b', 'a'))
BIG = 10 ** 60 - 1


def nest(thing, times):
    for _ in range(times):
        thing = (thing,)
    return thing


# At least one value of each kind that may be handed in, and many that are nearly right somewhere.
ODD = [
    None, True, False, 0, 1, -1, 2, 7, BIG, -BIG,
    '', 'a', 'c', 'top', 'zz', 'abcdefgh', 'abcdefghi', 'A', 'aB', 'a1', '1', ' ', 'a ', ' a', '-', '\n', 'a\n',
    'a>b', 'x' * 4000, 'folder a in - room 1', '1 1 1 0',
    (), [], (None,), [None], ((),), [[]], ('a',), ['a'], ('a', 'b'), ['a', 'b'], ('b', 'a'), ('', 'a'), ('a', ''),
    ('', ''), ('a', 'a'), ('a', True), (True, 'a'), ('a', None), ('a', ['b']), (['a'], 'b'), ('a', 'b', 'c'),
    ('a', '', 1), ['a', '', 1], ('a', 'b', 1), ('a', '', True), ('a', '', -1), ('a', '', '1'), ('a', '', None),
    ('a', '', (1,)), ('a', '', 1, 2), ('', 'a', 1), ('a', 'b', 0), ('a', 'b', BIG),
    (1, 1, 1, 0), [1, 1, 1, 0], (1, True, 1, 0), (1, 1, 1), (True, True, True, False), (1, 1, 1, None),
    (('a', 'b'),), [('a', 'b')], (['a', 'b'],), (('a', 'b'), ('a', 'b')), (('b', 'c'), ('a', 'b')),
    (('a', 'b'), None), (('a', 'b'), ('c', ['a'])), (('a', '', 1),), [('a', '', 1)], (['a', '', 1],),
    TREE, list(TREE), STAND, list(STAND), LOT, list(LOT), LOT[::-1],
    nest('a', 29), nest(1, 29), [[[[['a', True], None], ()], 'b'], 3], tuple(range(5000)), ['a'] * 5000,
]


class Other:
    """An object that is none of the package's."""

    tree = TREE
    stand = STAND


def shown(thing):
    """A text of a value in which True is not 1, to see whether the value has changed."""
    return repr(thing)


def fields_of(error):
    return dict(vars(error))


class Told:
    """What a call did: its result, or its error's class and fields."""

    def __init__(self, call, *args, **more):
        self.kind, self.fields, self.result = None, None, None
        try:
            self.result = call(*args, **more)
        except Exception as error:
            self.kind, self.fields = error.__class__, fields_of(error)


def refuses(case, kind, fields, call, *args, **more):
    """The call raises just this error with just these fields, the very objects for those that are none of ours."""
    before = shown((args, more))
    told = Told(call, *args, **more)
    where = f'{getattr(call, "__name__", call)}{args!r:.300}{more!r:.300}'
    case.assertIs(told.kind, kind, f'{where} gave {told.result!r:.300} {told.fields!r:.300}')
    case.assertEqual(repr(told.fields), repr(fields), where)
    case.assertEqual(shown((args, more)), before, where)


def gives(case, worth, call, *args, **more):
    """The call returns just this value, of just this kind, and leaves alone what was handed in."""
    before = shown((args, more))
    result = call(*args, **more)
    case.assertEqual(repr(result), repr(worth), f'{call.__name__}{args!r:.300}{more!r:.300}')
    case.assertEqual(shown((args, more)), before)


def parameters(call):
    return [str(name) for name in inspect.signature(call).parameters.values()]


def by_name_turned(call, names, args):
    """Calls with all arguments by name, the last one first."""
    return call(**dict(reversed(list(zip(names, args)))))


# What the parameters are refused with, beside TREE, STAND and LOT; None for a value that can be used.
FAULTS = {
    'tree': lambda thing: plain.tree_fault(thing) and ('tree', -1),
    'stand': lambda thing: plain.stand_fault(TREE, thing) and ('stand', -1),
    'lot': lambda thing: plain.lot_fault(TREE, STAND, thing) and ('lot', -1),
    'move': lambda thing: None if plain.is_plain_move(TREE, thing) else ('move', thing),
    'folder': lambda thing: None if plain.is_plain_spot(TREE, thing) and thing else ('folder', thing),
    'asked': lambda thing: plain.asked_fault(TREE, STAND, LOT, thing) and ('asked', -1),
}
ALMOST = [LOT[::-1], (('c', 'a'), ('c', 'b')), (('a', 'x'),), (('', 'x'),), ('a', 'x'), ('x', 'a'), (2, 1, 1, 1),
        (1, 1, 1, -1), (0, 2, 0, 0), (*TREE[:3], ('top', 'a', 3)), (*TREE, ('z', 'y', 1))]


def refuses_each(case, call, *args):
    """NotUsable for each wrong value of each parameter, also where all behind it are wrong, by position and by name."""
    names = parameters(call)
    case.assertEqual(len(names), len(args))
    for k, name in enumerate(names):
        if name in FAULTS:
            for thing in [*ODD, *ALMOST]:
                found = FAULTS[name](thing)
                if found:
                    fields = {'word': found[0], 'at': found[1]}
                    refuses(case, NotUsable, fields, call, *args[:k], thing, *args[k + 1:])
                    wrong = [*args[:k], thing, *[None] * (len(args) - k - 1)]
                    refuses(case, NotUsable, fields, call, **dict(reversed(list(zip(names, wrong)))))


def takes_arguments(case, call, *args):
    """The call is the same by position and by name in another order, and refuses wrong values of its parameters."""
    by_name = by_name_turned(call, parameters(call), args)
    case.assertEqual(repr(by_name), repr(call(*args)))
    refuses_each(case, call, *args)


def small_cases(seed, many, make=plain.some_case, *limits):
    """So many random trees, each with a stand and a lot of it."""
    pick = random.Random(seed)
    for _ in range(many):
        yield make(pick, *limits)
