"""Points 6, 10 and 16: lot_with, lot_without."""

import random
import unittest

import plain
from support import BIG, LOT, ODD, STAND, TREE, by_name_turned, gives, parameters, refuses

from roomrings.errors import NotUsable
from roomrings.lots import lot_with, lot_without

BOTH = [lot_with, lot_without]
NAMES = ['tree', 'stand', 'lot', 'move']


class Lots(unittest.TestCase):

    def refused(self, call, tree, stand, lot, move, word='move', at=None):
        fields = {'word': word, 'at': move if word == 'move' else -1}
        refuses(self, NotUsable, fields, call, tree, stand, lot, move)
        refuses(self, NotUsable, fields, call, move=move, lot=lot, stand=stand, tree=tree)

    def test_parameters(self):
        for call in BOTH:
            self.assertEqual(parameters(call), NAMES)

    def test_examples(self):
        gives(self, (('', 'a'), ('a', 'b'), ('b', 'c'), ('c', 'a')), lot_with, TREE, STAND, LOT, ('', 'a'))
        gives(self, (('a', 'b'), ('c', 'a')), lot_without, TREE, STAND, LOT, ('b', 'c'))
        self.refused(lot_with, TREE, STAND, LOT, ('a', 'c'))

    def test_equal_moves(self):
        stand = (2, 0, 0, 0)
        gives(self, (('a', 'b'), ('a', 'b')), lot_with, TREE, stand, (('a', 'b'),), ('a', 'b'))
        gives(self, (('a', 'b'),), lot_without, TREE, stand, (('a', 'b'), ('a', 'b')), ('a', 'b'))
        gives(self, (('', 'a'),) * 3, lot_with, TREE, stand, (('', 'a'),) * 2, ('', 'a'))
        gives(self, (('', 'a'), ('', 'b'), ('a', 'b')), lot_without, TREE, stand,
              (('', 'a'), ('', 'a'), ('', 'b'), ('a', 'b')), ('', 'a'))

    def test_from_and_to_outside(self):
        gives(self, (('', 'top'),), lot_with, TREE, (0, 0, 0, 0), (), ('', 'top'))
        gives(self, (('a', ''),), lot_with, TREE, STAND, (), ('a', ''))
        gives(self, (), lot_without, TREE, STAND, (('a', ''),), ('a', ''))

    def test_no_file_more(self):
        self.refused(lot_with, TREE, STAND, LOT, ('a', 'b'))
        self.refused(lot_with, TREE, STAND, LOT, ('a', ''))
        self.refused(lot_with, TREE, STAND, LOT, ('top', ''))
        gives(self, (*LOT, ('top', 'a')), lot_with, TREE, (1, 1, 1, 1), LOT, ('top', 'a'))

    def test_a_move_that_the_lot_lacks(self):
        for move in (('a', 'c'), ('', 'a'), ('b', 'a'), ('top', '')):
            self.refused(lot_without, TREE, STAND, LOT, move)
            self.refused(lot_without, TREE, STAND, (), move)

    def test_values_that_are_no_move(self):
        for thing in ODD:
            if not plain.is_plain_move(TREE, thing):
                for call in BOTH:
                    self.refused(call, TREE, STAND, LOT, thing)
                    self.refused(call, TREE, (2, 1, 1, 0), (), thing)
        for move in (('a', 'x'), ('x', ''), ['a', 'b']):
            for call in BOTH:
                self.refused(call, TREE, STAND, LOT, move)

    def test_wrong_tree_stand_and_lot(self):
        for thing in ODD:
            for call in BOTH:
                if plain.tree_fault(thing):
                    self.refused(call, thing, STAND, LOT, ('a', 'b'), 'tree')
                    self.refused(call, thing, None, None, None, 'tree')
                if plain.stand_fault(TREE, thing):
                    self.refused(call, TREE, thing, LOT, ('a', 'b'), 'stand')
                    self.refused(call, TREE, thing, None, None, 'stand')
                if plain.lot_fault(TREE, STAND, thing):
                    self.refused(call, TREE, STAND, thing, ('a', 'b'), 'lot')
                    self.refused(call, TREE, STAND, thing, None, 'lot')
        self.refused(lot_without, TREE, STAND, (('a', 'b'), ('a', 'b')), ('a', 'b'), 'lot')

    def test_by_name(self):
        for call, move in ((lot_with, ('', 'c')), (lot_without, ('c', 'a'))):
            args = [TREE, STAND, LOT, move]
            self.assertEqual(by_name_turned(call, NAMES, args), call(*args))

    def test_large(self):
        names = plain.MANY_NAMES
        tree = tuple((name, '', BIG) for name in names)
        lot = tuple((name, '') for name in names)
        stand = (BIG,) * len(names)
        gives(self, (*lot, (names[-1], '')), lot_with, tree, stand, lot, (names[-1], ''))
        gives(self, lot[1:], lot_without, tree, stand, lot, lot[0])

    def test_against_the_plain_reading(self):
        pick = random.Random(20)
        for _ in range(300):
            tree = plain.some_tree(pick)
            stand = plain.some_stand(pick, tree)
            lot = plain.some_lot(pick, tree, stand)
            for move in [*plain.some_moves(pick, tree), *lot]:
                longer = tuple(sorted((*lot, move)))
                if plain.lot_fault(tree, stand, longer) is None:
                    gives(self, longer, lot_with, tree, stand, lot, move)
                    gives(self, lot, lot_without, tree, stand, longer, move)
                else:
                    self.refused(lot_with, tree, stand, lot, move)
                if move in lot:
                    shorter = list(lot)
                    shorter.remove(move)
                    gives(self, tuple(shorter), lot_without, tree, stand, lot, move)
                    gives(self, lot, lot_with, tree, stand, tuple(shorter), move)
                else:
                    self.refused(lot_without, tree, stand, lot, move)


if __name__ == '__main__':
    unittest.main()
