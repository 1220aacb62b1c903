"""Values and helpers that the tests share."""

import inspect

TREE = (('a', 'top', 2), ('b', 'top', 1), ('c', '', 1), ('top', '', 3))
STAND = (1, 1, 1, 0)
LOT = (('a', 'b'), ('b', 'c'), ('c', 'a'))
BIG = 10 ** 60 - 1


def nest(thing, times):
    for _ in range(times):
        thing = (thing,)
    return thing


# At least one value of each kind that may be handed in, and many that are nearly right somewhere.
ODD = [
    None, True, False, 0, 1, -1, 2, 7, BIG, -BIG,
    '', 'a', 'c', 'top', 'zz', 'abcdefgh', 'abcdefghi', 'A', 'aB', 'a1', '1', ' ', 'a ', ' a', '-', '\n', 'a\n',
    'a>b', 'x' * 4000, 'folder a in - room 1', '1 1 1 0',
    (), [], (None,), [None], ((),), [[]], ('a',), ['a'], ('a', 'b'), ['a', 'b'], ('b', 'a'), ('', 'a'), ('a', ''),
    ('', ''), ('a', 'a'), ('a', True), (True, 'a'), ('a', None), ('a', ['b']), (['a'], 'b'), ('a', 'b', 'c'),
    ('a', '', 1), ['a', '', 1], ('a', 'b', 1), ('a', '', True), ('a', '', -1), ('a', '', '1'), ('a', '', None),
    ('a', '', (1,)), ('a', '', 1, 2), ('', 'a', 1), ('a', 'b', 0), ('a', 'b', BIG),
    (1, 1, 1, 0), [1, 1, 1, 0], (1, True, 1, 0), (1, 1, 1), (True, True, True, False), (1, 1, 1, None),
    (('a', 'b'),), [('a', 'b')], (['a', 'b'],), (('a', 'b'), ('a', 'b')), (('b', 'c'), ('a', 'b')),
    (('a', 'b'), None), (('a', 'b'), ('c', ['a'])), (('a', '', 1),), [('a', '', 1)], (['a', '', 1],),
    TREE, list(TREE), STAND, list(STAND), LOT, list(LOT), LOT[::-1],
    nest('a', 29), nest(1, 29), [[[[['a', True], None], ()], 'b'], 3], tuple(range(5000)), ['a'] * 5000,
]


class Other:
    """An object that is none of the package's."""

    tree = TREE
    stand = STAND


def shown(thing):
    """A text of a value in which True is not 1, to see whether the value has changed."""
    return repr(thing)


def fields_of(error):
    return dict(vars(error))


class Told:
    """What a call did: its result, or its error's class and fields."""

    def __init__(self, call, *args, **more):
        self.kind, self.fields, self.result = None, None, None
        try:
            self.result = call(*args, **more)
        except Exception as error:
            self.kind, self.fields = error.__class__, fields_of(error)


def refuses(case, kind, fields, call, *args, **more):
    """The call raises just this error with just these fields, the very objects for those that are none of ours."""
    before = shown((args, more))
    told = Told(call, *args, **more)
    where = f'{getattr(call, "__name__", call)}{args!r:.300}{more!r:.300}'
    case.assertIs(told.kind, kind, f'{where} gave {told.result!r:.300} {told.fields!r:.300}')
    case.assertEqual(repr(told.fields), repr(fields), where)
    case.assertEqual(shown((args, more)), before, where)


def gives(case, worth, call, *args, **more):
    """The call returns just this value, of just this kind, and leaves alone what was handed in."""
    before = shown((args, more))
    result = call(*args, **more)
    case.assertEqual(repr(result), repr(worth), f'{call.__name__}{args!r:.300}{more!r:.300}')
    case.assertEqual(shown((args, more)), before)


def parameters(call):
    return [str(name) for name in inspect.signature(call).parameters.values()]


def by_name_turned(call, names, args):
    """Calls with all arguments by name, the last one first."""
    return call(**dict(reversed(list(zip(names, args)))))
