"""Points 5, 6, 10 and 16: lets_lot."""

import random
import unittest

import plain
from support import BIG, LOT, ODD, STAND, TREE, gives, parameters, refuses

from roomrings.errors import InvalidPaper, NotUsable
from roomrings.lotchecker import lets_lot


class LotsJudged(unittest.TestCase):

    def fault(self, word, at, thing, tree=TREE, stand=STAND):
        refuses(self, InvalidPaper, {'word': word, 'at': at}, lets_lot, tree, stand, thing)
        refuses(self, InvalidPaper, {'word': word, 'at': at}, lets_lot, thing=thing, stand=stand, tree=tree)

    def test_parameters(self):
        self.assertEqual(parameters(lets_lot), ['tree', 'stand', 'thing'])

    def test_lots(self):
        gives(self, 3, lets_lot, TREE, STAND, LOT)
        gives(self, 3, lets_lot, thing=LOT, stand=STAND, tree=TREE)
        gives(self, 0, lets_lot, TREE, STAND, ())
        gives(self, 1, lets_lot, TREE, STAND, (('a', 'top'),))
        gives(self, 30, lets_lot, TREE, STAND, (('', 'a'),) * 30)
        gives(self, 2, lets_lot, TREE, (2, 0, 0, 0), (('a', 'b'), ('a', 'b')))

    def test_shape(self):
        for thing in ODD:
            if not isinstance(thing, tuple):
                self.fault('shape', -1, thing)
        self.fault('shape', -1, list(LOT))

    def test_move(self):
        for thing in ODD:
            if not plain.is_plain_move(TREE, thing):
                self.fault('move', 0, (thing,))
                self.fault('move', 1, (('', 'a'), thing))
                self.fault('move', 1, (('', 'a'), thing, None))

    def test_parts_of_a_move(self):
        for thing in ODD:
            for move in ((thing, 'b'), ('b', thing), ('b', thing, 'c')):
                found = plain.lot_fault(TREE, STAND, (('', 'a'), move))
                if found is None:
                    gives(self, 2, lets_lot, TREE, STAND, (('', 'a'), move))
                else:
                    self.fault(*found, (('', 'a'), move))

    def test_spots_of_the_tree(self):
        self.fault('move', 0, (('a', 'x'),))
        self.fault('move', 0, (('x', 'a'),))
        self.fault('move', 0, (('', ''),))
        self.fault('move', 0, (('a', 'a'),))

    def test_order(self):
        self.fault('move', 1, (('b', 'c'), ('a', 'b')))
        self.fault('move', 1, (('a', 'c'), ('a', 'b')))
        self.fault('move', 2, (('', 'a'), ('a', 'b'), ('', 'a')))

    def test_files(self):
        self.fault('files', 'a', (('a', 'b'), ('a', 'b')))
        self.fault('files', 'a', (('a', 'b'), ('a', 'top')))
        self.fault('files', 'top', (('top', 'b'),))
        self.fault('files', 'c', (('c', ''), ('c', ''), ('top', 'b')))

    def test_files_of_outside_have_no_end(self):
        gives(self, 5000, lets_lot, TREE, (0, 0, 0, 0), (('', 'top'),) * 5000)

    def test_two_faults(self):
        self.fault('move', 2, (('a', 'b'), ('a', 'b'), None))
        self.fault('move', 2, (('top', 'b'), ('top', 'b'), ('b', 'top')))
        self.fault('move', 0, (('a', 'a'), None))
        self.fault('files', 'b', (('b', ''), ('b', ''), ('top', '')))

    def test_wrong_tree_and_stand(self):
        for thing in ODD:
            if plain.tree_fault(thing):
                refuses(self, NotUsable, {'word': 'tree', 'at': -1}, lets_lot, thing, STAND, LOT)
                refuses(self, NotUsable, {'word': 'tree', 'at': -1}, lets_lot, thing=None, stand=None, tree=thing)
            if plain.stand_fault(TREE, thing):
                refuses(self, NotUsable, {'word': 'stand', 'at': -1}, lets_lot, TREE, thing, LOT)
                refuses(self, NotUsable, {'word': 'stand', 'at': -1}, lets_lot, thing=None, stand=thing, tree=TREE)

    def test_large_trees_and_numbers(self):
        for many in (16, 32):
            names = plain.MANY_NAMES[:many]
            tree = tuple((name, parent, BIG) for name, parent in zip(names, ['', *names]))
            stand = (0,) * (many - 1) + (BIG,)
            gives(self, 40, lets_lot, tree, stand, ((names[-1], ''),) * 40)
            self.fault('files', names[0], ((names[0], ''), (names[-1], '')), tree, stand)

    def test_random_lots(self):
        pick = random.Random(18)
        for _ in range(300):
            tree = plain.some_tree(pick)
            stand = plain.some_stand(pick, tree)
            lot = plain.some_lot(pick, tree, stand)
            gives(self, len(lot), lets_lot, tree, stand, lot)

    def test_random_faults(self):
        pick = random.Random(19)
        seen = set()
        for _ in range(4000):
            tree = plain.some_tree(pick)
            stand = plain.some_stand(pick, tree)
            lot = plain.some_moves(pick, tree)
            if pick.random() < 0.5:
                lot = plain.broken(pick, lot, [*plain.SIX, '', 1, True, None, ('a', 'b'), ('', 'e'), ['a'], ()])
            found = plain.lot_fault(tree, stand, lot)
            if found is None:
                gives(self, len(lot), lets_lot, tree, stand, lot)
            else:
                seen.add(found[0])
                self.fault(*found, lot, tree, stand)
        self.assertEqual(seen, {'shape', 'move', 'files'})


if __name__ == '__main__':
    unittest.main()
