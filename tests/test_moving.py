"""Points 4, 5, 10, 22 and 24: can_move, after_move, movable, after_moves."""

import itertools
import unittest

import plain
from support import BIG, LOT, ODD, STAND, TREE, gives, parameters, refuses, small_cases, takes_arguments

from roomrings.errors import NotUsable
from roomrings.moving import after_move, after_moves, can_move, movable

GOOD = (('c', 'a'), ('b', 'c'), ('a', 'b'))


def pairs_of_spots(tree):
    return list(itertools.permutations(['', *[row[0] for row in tree]], 2))


class Moving(unittest.TestCase):

    def test_parameters(self):
        self.assertEqual(parameters(can_move), ['tree', 'stand', 'move'])
        self.assertEqual(parameters(after_move), ['tree', 'stand', 'move'])
        self.assertEqual(parameters(movable), ['tree', 'stand', 'lot'])
        self.assertEqual(parameters(after_moves), ['tree', 'stand', 'moves'])

    def test_examples(self):
        self.assertEqual([can_move(TREE, STAND, ('a', 'b')), movable(TREE, STAND, LOT),
                          after_move(TREE, STAND, ('c', 'a'))], [False, (('c', 'a'),), (2, 1, 0, 0)])
        self.assertEqual(after_moves(TREE, STAND, GOOD), (1, 1, 1, 0))
        refuses(self, NotUsable, {'word': 'moves', 'at': 1}, after_moves, TREE, STAND, (('c', 'a'), ('a', 'b')))

    def test_around_and_within(self):
        tree, stand = (('a', 'p', 1), ('b', 'p', 2), ('p', '', 2)), (1, 0, 1)
        # p is full: what stays within it may go, and what only leaves
        gives(self, True, can_move, tree, stand, ('a', 'p'))
        gives(self, (0, 0, 2), after_move, tree, stand, ('a', 'p'))
        gives(self, True, can_move, tree, stand, ('p', 'b'))
        gives(self, (1, 1, 0), after_move, tree, stand, ('p', 'b'))
        gives(self, False, can_move, tree, stand, ('p', 'a'))
        gives(self, True, can_move, tree, stand, ('a', 'b'))
        gives(self, True, can_move, tree, stand, ('a', ''))
        gives(self, (0, 0, 1), after_move, tree, stand, ('a', ''))
        gives(self, False, can_move, tree, stand, ('', 'b'))
        gives(self, False, can_move, tree, stand, ('', 'p'))
        gives(self, False, can_move, tree, stand, ('b', 'p'))

    def test_folders_around_are_asked_too(self):
        tree = (('a', 'b', 9), ('b', 'c', 9), ('c', 'd', 1), ('d', '', 9), ('e', 'd', 9))
        self.assertFalse(can_move(tree, (0, 0, 1, 0, 1), ('e', 'a')))
        self.assertFalse(can_move(tree, (0, 0, 1, 0, 1), ('', 'a')))
        self.assertTrue(can_move(tree, (0, 0, 1, 0, 1), ('c', 'a')))
        self.assertTrue(can_move(tree, (0, 0, 0, 1, 1), ('e', 'a')))

    def test_no_room_at_all(self):
        tree = (('a', '', 0), ('b', '', 1), ('c', 'a', 5))
        for target in ('a', 'c'):
            self.assertFalse(can_move(tree, (0, 1, 0), ('b', target)))
            self.assertFalse(can_move(tree, (0, 1, 0), ('', target)))
        self.assertEqual(movable(tree, (0, 1, 0), (('', 'b'), ('b', ''))), (('b', ''),))

    def test_outside_never_runs_out(self):
        tree = (('a', '', BIG),)
        self.assertEqual(after_moves(tree, (BIG - 3,), (('', 'a'),) * 3), (BIG,))
        refuses(self, NotUsable, {'word': 'moves', 'at': 3}, after_moves, tree, (BIG - 3,), (('', 'a'),) * 4)
        refuses(self, NotUsable, {'word': 'move', 'at': ('', 'a')}, after_move, tree, (BIG,), ('', 'a'))
        gives(self, (BIG - 1,), after_move, tree, (BIG,), ('a', ''))

    def test_all_pairs_of_spots(self):
        for tree, stand, lot in small_cases(50, 400, plain.some_case, plain.SIX):
            for move in pairs_of_spots(tree):
                goes = plain.can_go(tree, stand, move)
                gives(self, goes, can_move, tree, stand, move)
                if goes:
                    gives(self, plain.after(tree, stand, move), after_move, tree, stand, move)
                    self.assertIsNone(plain.stand_fault(tree, plain.after(tree, stand, move)))
                    gives(self, plain.after(tree, stand, move), after_moves, tree, stand, (move,))
                else:
                    refuses(self, NotUsable, {'word': 'move', 'at': move}, after_move, tree, stand, move)
                    refuses(self, NotUsable, {'word': 'moves', 'at': 0}, after_moves, tree, stand, (move,))
            gives(self, tuple(sorted(move for move in set(lot) if plain.can_go(tree, stand, move))),
                  movable, tree, stand, lot)

    def test_all_stands_of_a_tree(self):
        tree = (('a', 'b', 1), ('b', 'd', 1), ('c', '', 0), ('d', '', 2))
        for stand in itertools.product(range(3), repeat=4):
            if plain.stand_fault(tree, stand) is None:
                for move in pairs_of_spots(tree):
                    gives(self, plain.can_go(tree, stand, move), can_move, tree, stand, move)

    def test_movable_each_once(self):
        tree = (('a', '', 3), ('b', '', 3))
        gives(self, (('', 'a'), ('a', 'b')), movable, tree, (2, 2), (('', 'a'), ('', 'a'), ('a', 'b'), ('a', 'b')))
        gives(self, (), movable, tree, (2, 2), ())

    def test_walks(self):
        for tree, stand, lot in small_cases(51, 300):
            for order in set(itertools.islice(itertools.permutations(lot), 0, 200, 7)):
                k = plain.first_refused(tree, stand, order)
                if k is None:
                    gives(self, plain.at_end(tree, stand, order), after_moves, tree, stand, order)
                else:
                    refuses(self, NotUsable, {'word': 'moves', 'at': k}, after_moves, tree, stand, order)
                    gives(self, plain.at_end(tree, stand, order[:k]), after_moves, tree, stand, order[:k])

    def test_no_moves(self):
        gives(self, STAND, after_moves, TREE, STAND, ())

    def test_more_moves_than_files(self):
        refuses(self, NotUsable, {'word': 'moves', 'at': 2}, after_moves, (('a', '', 2),), (2,), (('a', ''),) * 3)
        # a file that came in on the way may go on
        gives(self, (0, 0), after_moves, (('a', '', 1), ('b', '', 1)), (0, 0), (('', 'a'), ('a', 'b'), ('b', '')))

    def test_moves_that_are_no_tuple(self):
        for thing in [*ODD, list(GOOD), 'ca', {}]:
            if not isinstance(thing, tuple):
                refuses(self, NotUsable, {'word': 'moves', 'at': -1}, after_moves, TREE, STAND, thing)
                refuses(self, NotUsable, {'word': 'moves', 'at': -1}, after_moves, moves=thing, stand=STAND, tree=TREE)

    def test_elements_that_are_no_moves(self):
        for thing in [*ODD, ('a', 'x'), ('x', 'a'), ['c', 'a']]:
            if not plain.is_plain_move(TREE, thing):
                for k in range(4):
                    moves = (*GOOD[:k], thing, *GOOD[k:])
                    refuses(self, NotUsable, {'word': 'moves', 'at': k}, after_moves, TREE, STAND, moves)
                # the first that is no move, or cannot go, whichever it is
                refuses(self, NotUsable, {'word': 'moves', 'at': 1}, after_moves, TREE, STAND,
                        (('c', 'a'), ('a', 'b'), thing))
                refuses(self, NotUsable, {'word': 'moves', 'at': 1}, after_moves, TREE, STAND,
                        (('c', 'a'), thing, ('a', 'b')))

    def test_arguments(self):
        takes_arguments(self, can_move, TREE, STAND, ('c', 'a'))
        takes_arguments(self, after_move, TREE, STAND, ('c', 'a'))
        takes_arguments(self, movable, TREE, STAND, LOT)
        takes_arguments(self, after_moves, TREE, STAND, GOOD)


if __name__ == '__main__':
    unittest.main()
