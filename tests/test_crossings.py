"""Points 5, 10, 22 and 23: entered, left_by, entering, leaving."""

import random
import unittest

import plain
from support import BIG, LOT, ODD, STAND, TREE, by_name_turned, gives, parameters, refuses

from roomrings.crossings import entered, entering, leaving, left_by
from roomrings.errors import NotUsable

OF_A_MOVE = [entered, left_by]
OF_A_LOT = [entering, leaving]


def plain_entered(tree, move):
    source, target = move
    return tuple(sorted(set(plain.around(tree, target)) - set(plain.around(tree, source))))


class Crossings(unittest.TestCase):

    def test_parameters(self):
        for call in OF_A_MOVE:
            self.assertEqual(parameters(call), ['tree', 'move'])
        for call in OF_A_LOT:
            self.assertEqual(parameters(call), ['tree', 'lot', 'folder'])

    def test_examples(self):
        self.assertEqual([entered(TREE, ('c', 'a')), left_by(TREE, ('c', 'a')), entered(TREE, ('a', 'b')),
                          entering(TREE, LOT, 'top'), leaving(TREE, LOT, 'top')], [('a', 'top'), ('c',), ('b',), 1, 1])

    def test_ordinary(self):
        gives(self, (), entered, TREE, ('a', 'top'))
        gives(self, ('a',), left_by, TREE, ('a', 'top'))
        gives(self, ('a',), entered, TREE, ('top', 'a'))
        gives(self, (), left_by, TREE, ('top', 'a'))
        gives(self, (), entered, TREE, ('a', ''))
        gives(self, ('a', 'top'), left_by, TREE, ('a', ''))
        gives(self, ('a', 'top'), entered, TREE, ('', 'a'))
        gives(self, (), left_by, TREE, ('', 'a'))

    def test_names_ascend(self):
        tree = (('a', '', 1), ('b', 'c', 1), ('c', 'a', 1))
        gives(self, ('a', 'b', 'c'), entered, tree, ('', 'b'))
        gives(self, ('a', 'b', 'c'), left_by, tree, ('b', ''))
        gives(self, ('b', 'c'), left_by, tree, ('b', 'a'))

    def test_all_pairs_of_spots(self):
        pick = random.Random(34)
        for _ in range(200):
            tree = plain.some_tree(pick)
            spots = ['', *[row[0] for row in tree]]
            for move in [(source, target) for source in spots for target in spots if source != target]:
                gives(self, plain_entered(tree, move), entered, tree, move)
                gives(self, plain_entered(tree, move[::-1]), left_by, tree, move)

    def test_lots_against_the_plain_reading(self):
        pick = random.Random(35)
        for _ in range(200):
            tree = plain.some_tree(pick)
            lot = plain.some_moves(pick, tree, 12)
            for name, _, _ in tree:
                gives(self, sum(name in plain_entered(tree, move) for move in lot), entering, tree, lot, name)
                gives(self, sum(name in plain_entered(tree, move[::-1]) for move in lot), leaving, tree, lot, name)

    def test_equal_moves_count_each(self):
        lot = (('', 'a'),) * 5 + (('a', 'b'), ('a', 'b'), ('b', ''))
        self.assertEqual([entering(TREE, lot, name) for name in ('a', 'b', 'c', 'top')], [5, 2, 0, 5])
        self.assertEqual([leaving(TREE, lot, name) for name in ('a', 'b', 'c', 'top')], [2, 1, 0, 1])
        self.assertEqual([entering(TREE, (), 'a'), leaving(TREE, (), 'a')], [0, 0])

    def test_no_stand_bounds_the_lot(self):
        self.assertEqual(leaving(TREE, (('c', 'top'),) * 100, 'c'), 100)

    def test_by_name(self):
        for call in OF_A_MOVE:
            self.assertEqual(by_name_turned(call, ['tree', 'move'], [TREE, ('c', 'a')]), call(TREE, ('c', 'a')))
        for call in OF_A_LOT:
            self.assertEqual(by_name_turned(call, ['tree', 'lot', 'folder'], [TREE, LOT, 'top']), 1)

    def test_wrong_tree(self):
        for thing in ODD:
            if plain.tree_fault(thing):
                for call in OF_A_MOVE:
                    refuses(self, NotUsable, {'word': 'tree', 'at': -1}, call, thing, ('a', 'b'))
                    refuses(self, NotUsable, {'word': 'tree', 'at': -1}, call, move=None, tree=thing)
                for call in OF_A_LOT:
                    refuses(self, NotUsable, {'word': 'tree', 'at': -1}, call, thing, LOT, 'a')
                    refuses(self, NotUsable, {'word': 'tree', 'at': -1}, call, folder=None, lot=None, tree=thing)

    def test_wrong_move(self):
        for thing in [*ODD, ('a', 'x'), ('x', 'a'), ['a', 'b'], ('', '')]:
            if not plain.is_plain_move(TREE, thing):
                for call in OF_A_MOVE:
                    refuses(self, NotUsable, {'word': 'move', 'at': thing}, call, TREE, thing)
                    refuses(self, NotUsable, {'word': 'move', 'at': thing}, call, move=thing, tree=TREE)

    def test_wrong_lot(self):
        for thing in [*ODD, LOT[::-1], (('a', 'x'),), (('', 'a'), ('x', '')), list(LOT), (('a', 'b'), None)]:
            moves = thing if isinstance(thing, tuple) else (None,)
            if not all(plain.is_plain_move(TREE, move) for move in moves) or sorted(moves) != list(moves):
                for call in OF_A_LOT:
                    refuses(self, NotUsable, {'word': 'lot', 'at': -1}, call, TREE, thing, 'a')
                    refuses(self, NotUsable, {'word': 'lot', 'at': -1}, call, folder=['a'], lot=thing, tree=TREE)

    def test_wrong_folder(self):
        for thing in ODD:
            if thing not in ('a', 'c', 'top'):
                for call in OF_A_LOT:
                    refuses(self, NotUsable, {'word': 'folder', 'at': thing}, call, TREE, LOT, thing)
                    refuses(self, NotUsable, {'word': 'folder', 'at': thing}, call, folder=thing, lot=LOT, tree=TREE)

    def test_what_a_folder_uses_after_moves(self):
        pick = random.Random(36)
        for _ in range(200):
            tree = tuple((*row[:2], BIG) for row in plain.some_tree(pick))
            stand = plain.some_stand(pick, tree)
            lot = plain.some_lot(pick, tree, stand)
            lying = dict(zip(['', *[row[0] for row in tree]], [BIG, *stand]))
            for source, target in lot:
                lying[source] -= 1
                lying[target] += 1
            after = tuple(lying[row[0]] for row in tree)
            for name, _, _ in tree:
                change = entering(tree, lot, name) - leaving(tree, lot, name)
                self.assertEqual(plain.uses(tree, after, name) - plain.uses(tree, stand, name), change)

    def test_large(self):
        for many in (16, 32):
            names = plain.MANY_NAMES[:many]
            tree = tuple((name, parent, BIG) for name, parent in zip(names, ['', *names]))
            gives(self, tuple(names), entered, tree, ('', names[-1]))
            gives(self, tuple(names[1:]), left_by, tree, (names[-1], names[0]))
            gives(self, 40, entering, tree, (('', names[-1]),) * 40, names[0])
            gives(self, 40, leaving, tree, ((names[-1], ''),) * 40, names[-1])


if __name__ == '__main__':
    unittest.main()
