"""Points 2, 3, 5 and 11: what values are by form."""

import random
import string
import unittest

from support import BIG, LOT, ODD, nest, parameters

from roomrings.kinds import is_bulk, is_folder, is_integer, is_move, is_moves, is_name, is_number, is_spot

ALL = [is_integer, is_number, is_name, is_spot, is_folder, is_move, is_moves, is_bulk]


# A second reading of point 11, which goes by the exact kind of a value.

def plain_integer(thing):
    return thing.__class__ is int


def plain_name(thing):
    return thing.__class__ is str and len(thing) in range(1, 9) and set(thing) <= set(string.ascii_lowercase)


def plain_spot(thing):
    return thing.__class__ is str and (thing == '' or plain_name(thing))


def plain_triple(thing):
    return thing.__class__ is tuple and len(thing) == 3


def plain_folder(thing):
    return (plain_triple(thing) and plain_name(thing[0]) and plain_spot(thing[1]) and thing[0] != thing[1]
            and plain_integer(thing[2]) and thing[2] >= 0)


def plain_move(thing):
    return (thing.__class__ is tuple and len(thing) == 2 and plain_spot(thing[0]) and plain_spot(thing[1])
            and thing[0] != thing[1])


def plain_moves(thing):
    return (thing.__class__ is tuple and all(plain_move(move) for move in thing)
            and all(thing[k - 1] <= thing[k] for k in range(1, len(thing))))


def plain_bulk(thing):
    return plain_triple(thing) and plain_move(thing[:2]) and plain_integer(thing[2]) and thing[2] > 0


PLAIN = {is_integer: plain_integer, is_number: lambda thing: plain_integer(thing) and thing >= 0, is_name: plain_name,
         is_spot: plain_spot, is_folder: plain_folder, is_move: plain_move, is_moves: plain_moves, is_bulk: plain_bulk}


class Kinds(unittest.TestCase):

    def yes(self, call, *things):
        for thing in things:
            self.assertIs(call(thing), True, f'{call.__name__} {thing!r:.100}')
            self.assertIs(call(thing=thing), True)

    def no(self, call, *things):
        for thing in things:
            self.assertIs(call(thing), False, f'{call.__name__} {thing!r:.100}')

    def test_parameters(self):
        for call in ALL:
            self.assertEqual(parameters(call), ['thing'])

    def test_example(self):
        self.assertEqual([is_spot(''), is_folder(('a', 'a', 1)), is_move(('', 'a')), is_moves(LOT[::-1]),
                          is_bulk(('a', 'b', True))], [True, False, True, False, False])

    def test_each_value_of_point_2(self):
        for call in ALL:
            for thing in ODD:
                before = repr(thing)
                self.assertIs(call(thing), PLAIN[call](thing), f'{call.__name__} {thing!r:.100}')
                self.assertEqual(repr(thing), before)

    def test_each_value_of_point_2_in_each_place(self):
        for call, good in ((is_folder, ('a', 'b', 1)), (is_move, ('a', 'b')), (is_bulk, ('a', 'b', 1)),
                           (is_moves, (('a', 'b'), ('a', 'c'))), (is_moves, (('', 'a'),))):
            self.yes(call, good)
            self.no(call, list(good))
            for k in range(len(good)):
                for thing in ODD:
                    one = (*good[:k], thing, *good[k + 1:])
                    self.assertIs(call(one), PLAIN[call](one), f'{call.__name__} {one!r:.100}')
                    self.no(call, list(one))

    def test_each_value_of_point_2_in_the_moves_of_moves(self):
        for thing in ODD:
            for one in (((thing, 'b'),), (('a', thing),), (('a', 'b'), (thing, 'c')), ((thing, 'b'), ('c', 'a'))):
                self.assertIs(is_moves(one), plain_moves(one), f'{one!r:.100}')

    def test_integers_and_numbers(self):
        self.yes(is_integer, 0, 1, -1, BIG, -BIG)
        self.no(is_integer, True, False, None, '1', (1,), [1])
        self.yes(is_number, 0, 1, BIG)
        self.no(is_number, -1, -BIG, True, False, '0')

    def test_names(self):
        self.yes(is_name, 'a', 'z', 'abcdefgh', 'qrstuvwx', 'yz')
        self.no(is_name, '', 'abcdefghi', 'A', 'aA', 'Aa', 'a1', '1a', 'a b', ' a', 'a ', 'a\n', '\na', 'a_b', '-',
                'a-b', '`', '{', '@', '[', 'a' * 4000)
        for code in [10, *range(32, 127)]:
            self.assertIs(is_name(chr(code)), 97 <= code <= 122)
            self.assertIs(is_name('a' + chr(code)), 97 <= code <= 122)

    def test_spots(self):
        self.yes(is_spot, '', 'a', 'abcdefgh')
        self.no(is_spot, None, False, 0, (), [], ' ', '-', 'abcdefghi', 'A', '\n')

    def test_folders(self):
        self.yes(is_folder, ('a', '', 0), ('a', 'b', BIG), ('b', 'a', 1), ('abcdefgh', 'abcdefg', 3))
        self.no(is_folder, ('a', 'a', 1), ('', 'a', 1), ('', '', 1), ('a', '', -1), ('a', '', True), ('a', '', False),
                ('a', ''), ('a', '', 1, 1), ['a', '', 1], ('a', None, 1), ('a', 'b', None), (('a',), '', 1))

    def test_moves(self):
        self.yes(is_move, ('a', 'b'), ('', 'a'), ('a', ''), ('b', 'a'))
        self.no(is_move, ('', ''), ('a', 'a'), ('a',), ('a', 'b', 'c'), ['a', 'b'], 'ab', ('a', None), (None, 'a'))

    def test_tuples_of_moves(self):
        self.yes(is_moves, (), (('a', 'b'),), (('a', 'b'), ('a', 'b')), LOT, (('', 'z'), ('a', ''), ('a', 'b')))
        self.no(is_moves, LOT[::-1], list(LOT), (('a', 'b'), ('a', '')), [], None, '', ('a', 'b'), (('a', 'a'),))

    def test_bulks(self):
        self.yes(is_bulk, ('a', 'b', 1), ('', 'b', 2), ('b', '', BIG))
        self.no(is_bulk, ('a', 'b', 0), ('a', 'b', -1), ('a', 'b', True), ('a', 'a', 1), ('', '', 1), ['a', 'b', 1],
                ('a', 'b'), ('a', 'b', 1, 1), ('a', 'b', '1'))

    def test_random_values(self):
        pick = random.Random(11)
        parts = ['a', 'b', '', 'ab', 0, 1, -1, True, None, 'A', ('a', 'b'), ('', 'a'), ['a', 'b'], ()]
        for _ in range(4000):
            thing = tuple(pick.choice(parts) for _ in range(pick.randrange(5)))
            for call in ALL:
                self.assertIs(call(thing), PLAIN[call](thing), f'{call.__name__} {thing!r}')

    def test_deep_values(self):
        for call in ALL:
            for thing in (nest('a', 29), nest(('a', 'b'), 28), nest(True, 29)):
                self.no(call, thing)


if __name__ == '__main__':
    unittest.main()
