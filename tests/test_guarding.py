"""Points 5 to 8, 9 (O2), 10, 39 and 40: is_let, let_moves."""

import itertools
import random
import unittest

import plain
from support import (BIG, BOTH, FOUR, LATE, LOT, NEAR, STAND, STUCK, SWAP, TREE, gives, parameters, refuses,
                     small_cases, takes_arguments)

from roomrings.errors import NotUsable
from roomrings.goers import all_go
from roomrings.guarding import is_let, let_moves
from roomrings.moving import after_move

OUTER, WISHES = (('a', 'p', 1), ('b', 'p', 1), ('p', '', 2), ('q', '', 1)), (('', 'p'), ('a', 'q'), ('q', 'b'))


def lets(tree, stand, lot, move):
    """Whether the guard lets a move of the lot, word by word."""
    if not plain.can_go(tree, stand, move):
        return False
    return plain.all_rings(tree, plain.after(tree, stand, move), plain.less(lot, move)) == []


class Guarding(unittest.TestCase):

    def test_parameters(self):
        self.assertEqual(parameters(is_let), ['tree', 'stand', 'lot', 'move'])
        self.assertEqual(parameters(let_moves), ['tree', 'stand', 'lot'])

    def test_examples(self):
        self.assertEqual([let_moves(TREE, STAND, LOT), let_moves(STUCK, STAND, LOT),
                          is_let(TREE, STAND, LOT, ('a', 'c'))], [(('c', 'a'),), (), False])
        self.assertEqual(let_moves(FOUR, (1, 1, 0, 1), (('a', 'b'), ('b', 'a'), ('d', 'c'))), ())
        self.assertEqual([let_moves(OUTER, (1, 0, 0, 1), WISHES), is_let(OUTER, (1, 0, 0, 1), WISHES, ('', 'p'))],
                         [(('q', 'b'),), False])
        refuses(self, NotUsable, {'word': 'move', 'at': ('a', 'x')}, is_let, TREE, STAND, LOT, ('a', 'x'))

    def test_no_moves(self):
        gives(self, (), let_moves, TREE, STAND, ())
        gives(self, False, is_let, TREE, STAND, (), ('c', 'a'))

    def test_moves_of_others(self):
        # it can go, and nothing would bar what is left, but the lot does not have it
        gives(self, False, is_let, TREE, STAND, LOT, ('c', ''))
        gives(self, False, is_let, TREE, STAND, LOT, ('', 'a'))
        gives(self, False, is_let, TREE, STAND, LOT, ('c', 'b'))
        gives(self, True, is_let, TREE, STAND, LOT, ('c', 'a'))

    def test_the_end_does_not_matter(self):
        gives(self, (('b', 'a'),), let_moves, NEAR, (0, 1), (('', 'b'), ('', 'b'), ('b', 'a')))
        # the end does not fit, but b is free of rings
        gives(self, (), let_moves, NEAR, BOTH, LATE)
        gives(self, (('', 'b'),), let_moves, NEAR, (1, 0), (('', 'a'), ('', 'b')))

    def test_equal_moves_once(self):
        tree = (('a', '', 3), ('b', '', 3))
        gives(self, (('', 'a'), ('b', 'a')), let_moves, tree, (0, 2), (('', 'a'), ('', 'a'), ('b', 'a'), ('b', 'a')))

    def test_the_same_move_again_can_be_a_ring(self):
        # after one of the equal moves the other one and the way back are a ring
        tree, lot = (('a', '', 1), ('b', '', 2)), (('a', 'b'), ('b', 'a'), ('b', 'a'))
        gives(self, plain.can_go(tree, (1, 2), ('b', 'a')), is_let, tree, (1, 2), lot, ('b', 'a'))
        tree = (('a', '', 2), ('b', '', 2))
        for stand in itertools.product(range(3), repeat=2):
            for lot in itertools.combinations_with_replacement((('a', 'b'), ('b', 'a')), 3):
                if plain.lot_fault(tree, stand, lot) is None:
                    gives(self, tuple(move for move in sorted(set(lot)) if lets(tree, stand, lot, move)),
                          let_moves, tree, stand, lot)

    def test_word_by_word(self):
        met = set()
        cases = [*small_cases(100, 500, plain.some_case, plain.SIX[:5]),
                 *small_cases(103, 200, plain.some_earlier, plain.SIX[:4], 5)]
        for tree, stand, lot in cases:
            let = tuple(move for move in sorted(set(lot)) if lets(tree, stand, lot, move))
            gives(self, let, let_moves, tree, stand, lot)
            for move in itertools.permutations(['', *[row[0] for row in tree]], 2):
                gives(self, move in let, is_let, tree, stand, lot, move)
            rings = plain.all_rings(tree, stand, lot)
            fits = not plain.crowded(tree, plain.at_end(tree, stand, lot))
            can = [move for move in sorted(set(lot)) if plain.can_go(tree, stand, move)]
            if rings:
                self.assertEqual(let, ())
            else:
                for move in can:
                    later = plain.after(tree, stand, move)
                    if not set(plain.entered(tree, move)) & set(plain.full(tree, later)):
                        self.assertIn(move, let)
            if fits:
                for move in set(lot):
                    goes = move in can and all_go(tree, after_move(tree, stand, move), plain.less(lot, move))
                    self.assertEqual(move in let, goes)
                    self.assertEqual(goes, move in can and plain.some_order(
                        tree, plain.after(tree, stand, move), plain.less(lot, move)) is not None)
                if not rings and lot:
                    self.assertNotEqual(let, ())
            met.add((bool(rings), fits, bool(lot), len(let) < len(can)))
        self.assertLessEqual({(False, True, True, True), (True, True, True, True), (True, False, True, True),
                              (False, False, True, False), (False, True, False, False)}, met)

    def test_who_goes_by_the_guard_makes_all_moves(self):
        pick = random.Random(101)
        walks = 0
        cases = [*small_cases(102, 200, plain.some_fitting, plain.SIX, 8),
                 *small_cases(104, 100, plain.some_earlier, plain.SIX[:5], 8)]
        for tree, stand, lot in cases:
            if not plain.all_rings(tree, stand, lot):
                for _ in range(2):
                    now, left = stand, lot
                    while left:
                        move = pick.choice(let_moves(tree, now, left))
                        self.assertTrue(plain.can_go(tree, now, move))
                        now, left = plain.after(tree, now, move), plain.less(left, move)
                    self.assertEqual(now, plain.at_end(tree, stand, lot))
                    walks += 1
        self.assertGreater(walks, 200)

    def test_large(self):
        names = plain.MANY_NAMES[:12]
        tree = tuple((name, '', BIG) for name in names)
        lot = tuple(sorted(list(zip(names, [*names[1:], names[0]])) * 2))
        gives(self, (), let_moves, tree, (BIG,) * 12, lot)
        gives(self, ((names[3], names[4]),), let_moves, tree, (BIG,) * 4 + (BIG - 1,) + (BIG,) * 7, lot)
        gives(self, True, is_let, tree, (BIG - 1,) + (BIG,) * 11, lot, (names[11], names[0]))
        gives(self, False, is_let, tree, (BIG - 1,) + (BIG,) * 11, lot, (names[0], names[1]))

    def test_arguments(self):
        takes_arguments(self, is_let, TREE, STAND, LOT, ('c', 'a'))
        takes_arguments(self, let_moves, TREE, STAND, LOT)
        refuses(self, NotUsable, {'word': 'lot', 'at': -1}, let_moves, NEAR, BOTH, (*SWAP, ('b', 'a')))


if __name__ == '__main__':
    unittest.main()
