"""Points 3, 10 and 13: room_of, parent_of, way_up, within, outermost."""

import random
import unittest

import plain
from support import BIG, ODD, TREE, by_name_turned, gives, parameters, refuses

from roomrings.errors import NotUsable
from roomrings.treeparts import outermost, parent_of, room_of, way_up, within

OF_A_FOLDER = [room_of, parent_of, within]


class TreeParts(unittest.TestCase):

    def test_parameters(self):
        for call in OF_A_FOLDER:
            self.assertEqual(parameters(call), ['tree', 'folder'])
        self.assertEqual(parameters(way_up), ['tree', 'spot'])
        self.assertEqual(parameters(outermost), ['tree'])

    def test_examples(self):
        gives(self, ('a', 'top'), way_up, TREE, 'a')
        gives(self, (), way_up, TREE, '')
        gives(self, ('a', 'b', 'top'), within, TREE, 'top')
        gives(self, ('c', 'top'), outermost, TREE)

    def test_ordinary(self):
        self.assertEqual([room_of(TREE, row[0]) for row in TREE], [2, 1, 1, 3])
        self.assertEqual([parent_of(TREE, row[0]) for row in TREE], ['top', 'top', '', ''])
        self.assertEqual([way_up(TREE, row[0]) for row in TREE], [('a', 'top'), ('b', 'top'), ('c',), ('top',)])
        self.assertEqual([within(TREE, row[0]) for row in TREE], [('a',), ('b',), ('c',), ('a', 'b', 'top')])

    def test_by_name(self):
        for call in OF_A_FOLDER:
            for name in ('a', 'top'):
                self.assertEqual(by_name_turned(call, ['tree', 'folder'], [TREE, name]), call(TREE, name))
        self.assertEqual(by_name_turned(way_up, ['tree', 'spot'], [TREE, 'b']), ('b', 'top'))
        self.assertEqual(outermost(tree=TREE), ('c', 'top'))

    def test_against_the_plain_reading(self):
        pick = random.Random(13)
        for _ in range(300):
            tree = plain.some_tree(pick)
            for name, parent, room in tree:
                gives(self, room, room_of, tree, name)
                gives(self, parent, parent_of, tree, name)
                gives(self, tuple(plain.around(tree, name)), way_up, tree, name)
                inside = tuple(row[0] for row in tree if name in plain.around(tree, row[0]))
                gives(self, inside, within, tree, name)
            gives(self, (), way_up, tree, '')
            gives(self, tuple(row[0] for row in tree if not row[1]), outermost, tree)

    def test_large_trees(self):
        for many in (16, 32):
            names = plain.MANY_NAMES[:many]
            tree = tuple((name, parent, BIG) for name, parent in zip(names, ['', *names]))
            gives(self, BIG, room_of, tree, names[-1])
            gives(self, names[-2], parent_of, tree, names[-1])
            gives(self, tuple(names[::-1]), way_up, tree, names[-1])
            gives(self, tuple(names), within, tree, names[0])
            gives(self, (names[0],), outermost, tree)

    def test_wrong_tree(self):
        for thing in [thing for thing in ODD if plain.tree_fault(thing)] + [(('a', 'b', 1), ('b', 'a', 1))]:
            for call in OF_A_FOLDER:
                refuses(self, NotUsable, {'word': 'tree', 'at': -1}, call, thing, 'a')
                refuses(self, NotUsable, {'word': 'tree', 'at': -1}, call, folder=None, tree=thing)
            refuses(self, NotUsable, {'word': 'tree', 'at': -1}, way_up, thing, '')
            refuses(self, NotUsable, {'word': 'tree', 'at': -1}, way_up, thing, ['a'])
            refuses(self, NotUsable, {'word': 'tree', 'at': -1}, outermost, thing)

    def test_wrong_folder(self):
        for thing in ODD:
            if thing in ('a', 'c', 'top'):
                continue
            for call in OF_A_FOLDER:
                refuses(self, NotUsable, {'word': 'folder', 'at': thing}, call, TREE, thing)
                refuses(self, NotUsable, {'word': 'folder', 'at': thing}, call, folder=thing, tree=TREE)

    def test_wrong_spot(self):
        for thing in ODD:
            if thing in ('', 'a', 'c', 'top'):
                continue
            refuses(self, NotUsable, {'word': 'spot', 'at': thing}, way_up, TREE, thing)
            refuses(self, NotUsable, {'word': 'spot', 'at': thing}, way_up, spot=thing, tree=TREE)

    def test_the_error_keeps_the_very_object(self):
        thing = ['a']
        with self.assertRaises(NotUsable) as caught:
            room_of(TREE, thing)
        self.assertIs(caught.exception.at, thing)


if __name__ == '__main__':
    unittest.main()
