"""Points 10 and 20: class Tree."""

import random
import unittest
from operator import add, contains, getitem, sub

import plain
from support import BIG, ODD, STAND, TREE, Other, gives, parameters, refuses

from roomrings.errors import InvalidPaper, InvalidText, NotUsable
from roomrings.shelves import Shelf
from roomrings.treereadings import tree_read
from roomrings.trees import Tree
from roomrings.treetexts import tree_text

NO_TREES = [thing for thing in ODD if plain.tree_fault(thing)]
THINGS = [*ODD, Other(), object, Tree]


class Trees(unittest.TestCase):

    def setUp(self):
        self.one = Tree(*TREE)

    def tearDown(self):
        self.assertEqual(self.one.tree, TREE)
        self.assertEqual(self.one.bearing, ('a', 'b', 'c', 'top'))

    def test_interface(self):
        self.assertEqual(parameters(Tree), ['*rows'])
        self.assertEqual(parameters(Tree.of), ['tree'])
        self.assertEqual(parameters(Tree.read), ['text'])
        self.assertEqual(parameters(Tree.flat), ['*names', 'room=2'])
        for name in ('tree', 'bearing', 'of', 'read', 'flat', '__init__', '__getitem__', '__contains__', '__len__',
                     '__iter__', '__eq__', '__str__', '__add__', '__sub__'):
            self.assertIn(name, vars(Tree))
        self.assertIsInstance(vars(Tree)['of'], classmethod)
        self.assertIsInstance(vars(Tree)['read'], classmethod)
        self.assertIsInstance(vars(Tree)['flat'], staticmethod)

    def test_examples(self):
        one = Tree.flat('b', 'a') + ('c', 'a', 1)
        self.assertEqual([one.bearing, one['c'], list(one - 'c'), 'top' in one, str(Tree.flat('b', room=0))],
                         [('a', 'b', 'c'), ('a', 1), ['a', 'b'], False, 'folder b in - room 0'])

    def test_properties(self):
        self.assertEqual(self.one.tree, TREE)
        self.assertIs(self.one.tree.__class__, tuple)
        self.assertEqual(self.one.bearing, ('a', 'b', 'c', 'top'))
        self.assertEqual(Tree(('zz', '', BIG)).bearing, ('zz',))

    def test_errors_of_lets_tree(self):
        refuses(self, InvalidPaper, {'word': 'shape', 'at': -1}, Tree)
        for thing in THINGS:
            found = plain.tree_fault((thing,))
            if found:
                refuses(self, InvalidPaper, {'word': found[0], 'at': found[1]}, Tree, thing)
                refuses(self, InvalidPaper, {'word': 'folder', 'at': 1}, Tree, ('a', '', 1), None, thing)
        refuses(self, InvalidPaper, {'word': 'folder', 'at': 0}, Tree, TREE)
        refuses(self, InvalidPaper, {'word': 'folder', 'at': 1}, Tree, *TREE[::-1])
        refuses(self, InvalidPaper, {'word': 'parent', 'at': 1}, Tree, ('a', 'b', 1), ('b', 'x', 1))
        refuses(self, InvalidPaper, {'word': 'within', 'at': 0}, Tree, ('a', 'b', 1), ('b', 'a', 1))

    def test_random_errors_of_lets_tree(self):
        pick = random.Random(30)
        for _ in range(1000):
            tree = plain.broken(pick, plain.some_tree(pick), [*plain.SIX, '', 1, True, None, ('a', '', 1)])
            if isinstance(tree, tuple):
                found = plain.tree_fault(tree)
                if found:
                    refuses(self, InvalidPaper, {'word': found[0], 'at': found[1]}, Tree, *tree)
                else:
                    self.assertEqual(Tree(*tree).tree, tree)

    def test_at(self):
        self.assertEqual([self.one[name] for name in 'abc'], [('top', 2), ('top', 1), ('', 1)])
        gives(self, ('', 3), getitem, self.one, 'top')
        for thing in THINGS:
            if thing not in ('a', 'c', 'top'):
                refuses(self, NotUsable, {'word': 'folder', 'at': thing}, getitem, self.one, thing)
        refuses(self, NotUsable, {'word': 'folder', 'at': slice(0, 1)}, getitem, self.one, slice(0, 1))

    def test_in(self):
        for name in ('a', 'b', 'c', 'top'):
            self.assertIs(name in self.one, True)
        for thing in [*THINGS, self.one]:
            if thing not in ('a', 'c', 'top'):
                self.assertIs(contains(self.one, thing), False)

    def test_len_and_iteration(self):
        self.assertEqual(len(self.one), 4)
        self.assertEqual(list(self.one), ['a', 'b', 'c', 'top'])
        self.assertEqual(list(self.one), list(self.one))
        self.assertEqual([(x, y) for x in Tree.flat('a', 'b') for y in Tree.flat('c', 'd')],
                         [('a', 'c'), ('a', 'd'), ('b', 'c'), ('b', 'd')])

    def test_equal(self):
        class Below(Tree):
            pass
        self.assertIs(self.one == Tree(*TREE), True)
        self.assertIs(self.one != Tree(*TREE), False)
        self.assertIs(self.one == Below(*TREE), True)
        self.assertIs(self.one == Tree(*TREE[:3], ('top', '', 4)), False)
        self.assertIs(self.one == Tree(('a', '', 2)), False)
        self.assertIs(self.one != Tree(('a', '', 2)), True)
        for thing in [*THINGS, Shelf.of(TREE, STAND)]:
            self.assertIs(self.one == thing, False)
            self.assertIs(thing == self.one, False)
            self.assertIs(self.one != thing, True)

    def test_str(self):
        self.assertEqual(str(self.one), tree_text(TREE))
        self.assertEqual(f'{self.one}', tree_text(TREE))

    def test_plus(self):
        more = self.one + ('bb', 'a', BIG)
        self.assertIs(more.__class__, Tree)
        self.assertEqual(more.tree, (*TREE[:2], ('bb', 'a', BIG), *TREE[2:]))
        self.assertEqual(more.bearing, ('a', 'b', 'bb', 'c', 'top'))
        self.assertEqual((self.one + ('z', '', 0)).tree, (*TREE, ('z', '', 0)))
        self.assertEqual((Tree(('b', '', 1)) + ('a', 'b', 1)).tree, (('a', 'b', 1), ('b', '', 1)))

    def test_plus_no_row(self):
        for thing in [*THINGS, ('top', '', 1), ('x', 'y', 1), ('x', 'x', 1), ('a', '', 1), ['x', '', 1], ('x', '', True),
                      ('x', 'z', 1), ('x', '', -1), ('', 'a', 1), ('x', ''), ('x', '', 1, 1), self.one, TREE[0]]:
            refuses(self, NotUsable, {'word': 'row', 'at': -1}, add, self.one, thing)

    def test_plus_each_value_in_each_place_of_a_row(self):
        for thing in ODD:
            for row in ((thing, '', 1), ('x', thing, 1), ('x', '', thing)):
                is_row = (plain.is_plain_name(row[0]) and row[0] not in ('a', 'b', 'c', 'top')
                          and plain.is_plain_spot(TREE, row[1]) and plain.is_plain_number(row[2]))
                if is_row:
                    self.assertEqual((self.one + row).tree, tuple(sorted((*TREE, row))))
                else:
                    refuses(self, NotUsable, {'word': 'row', 'at': -1}, add, self.one, row)

    def test_minus(self):
        less = self.one - 'a'
        self.assertIs(less.__class__, Tree)
        self.assertEqual(less.tree, TREE[1:])
        self.assertEqual((self.one - 'c').tree, (*TREE[:2], TREE[3]))
        self.assertEqual((self.one - 'a' - 'b' - 'top').tree, (('c', '', 1),))

    def test_minus_no_folder(self):
        for thing in [*THINGS, 'top', 'x', self.one]:
            if thing not in ('a', 'c'):
                refuses(self, NotUsable, {'word': 'folder', 'at': thing}, sub, self.one, thing)
        refuses(self, NotUsable, {'word': 'folder', 'at': 'a'}, sub, Tree(('a', '', 1)), 'a')
        deep = Tree(('a', '', 1), ('b', 'a', 1), ('c', 'b', 1))
        refuses(self, NotUsable, {'word': 'folder', 'at': 'a'}, sub, deep, 'a')
        refuses(self, NotUsable, {'word': 'folder', 'at': 'b'}, sub, deep, 'b')

    def test_of(self):
        self.assertIs(Tree.of(TREE).__class__, Tree)
        self.assertEqual(Tree.of(TREE).tree, TREE)
        self.assertEqual(Tree.of(tree=TREE), self.one)
        for thing in [*NO_TREES, Other(), self.one, (('a', 'b', 1), ('b', 'a', 1))]:
            refuses(self, NotUsable, {'word': 'tree', 'at': -1}, Tree.of, thing)

    def test_read(self):
        self.assertIs(Tree.read(str(self.one)).__class__, Tree)
        self.assertEqual(Tree.read(str(self.one)), self.one)
        self.assertEqual(Tree.read(text='folder a in - room 0').tree, (('a', '', 0),))
        for thing in [*ODD, self.one]:
            if not isinstance(thing, str):
                refuses(self, NotUsable, {'word': 'text', 'at': -1}, Tree.read, thing)
        refuses(self, InvalidText, {'line': 1, 'field': 5}, Tree.read, 'folder a in b room 1\nfolder c in - room 01')
        refuses(self, InvalidText, {'line': 0, 'field': 3}, Tree.read, 'folder a in b room 1')
        refuses(self, InvalidText, {'line': 0, 'field': 0}, Tree.read, '')

    def test_flat(self):
        self.assertIs(Tree.flat('a').__class__, Tree)
        self.assertEqual(Tree.flat('a').tree, (('a', '', 2),))
        self.assertEqual(Tree.flat('c', 'a', 'b', room=BIG).tree, (('a', '', BIG), ('b', '', BIG), ('c', '', BIG)))
        self.assertEqual(Tree.flat('a', room=0).tree, (('a', '', 0),))

    def test_flat_wrong_names_and_room(self):
        refuses(self, NotUsable, {'word': 'names', 'at': -1}, Tree.flat)
        refuses(self, NotUsable, {'word': 'names', 'at': -1}, Tree.flat, room=None)
        refuses(self, NotUsable, {'word': 'names', 'at': -1}, Tree.flat, 'a', 'b', 'a')
        refuses(self, NotUsable, {'word': 'names', 'at': -1}, Tree.flat, 'a', 'a', room=True)
        refuses(self, NotUsable, {'word': 'names', 'at': -1}, Tree.flat, 'a', 'b', 1)
        for thing in THINGS:
            if not plain.is_plain_name(thing):
                refuses(self, NotUsable, {'word': 'names', 'at': -1}, Tree.flat, thing)
                refuses(self, NotUsable, {'word': 'names', 'at': -1}, Tree.flat, 'a', thing, room=-1)
                refuses(self, NotUsable, {'word': 'names', 'at': -1}, Tree.flat, thing, thing)
            if not plain.is_plain_number(thing):
                refuses(self, NotUsable, {'word': 'room', 'at': thing}, Tree.flat, 'b', 'a', room=thing)

    def test_a_tree_never_changes(self):
        for name in ('tree', 'bearing'):
            with self.assertRaises(AttributeError):
                setattr(self.one, name, ())
        for change in (lambda: self.one + ('z', '', 1), lambda: self.one - 'a', lambda: self.one['a'],
                       lambda: 'a' in self.one, lambda: str(self.one), lambda: list(self.one)):
            change()
            self.assertEqual(self.one, Tree(*TREE))
        same = self.one
        same += ('z', '', 1)
        self.assertEqual([len(same), len(self.one)], [5, 4])
        same -= 'z'
        self.assertEqual(same, self.one)

    def test_what_it_was_made_of_can_be_changed(self):
        rows = [('a', '', 1), ('b', 'a', 1)]
        one = Tree(*rows)
        rows.pop()
        names = list(one)
        names.clear()
        self.assertEqual([one.tree, len(one), list(one)], [(('a', '', 1), ('b', 'a', 1)), 2, ['a', 'b']])
        again = Tree.of(one.tree)
        self.assertEqual([again == one, again.tree, (again - 'b').tree], [True, one.tree, (('a', '', 1),)])

    def test_random_trees(self):
        pick = random.Random(31)
        for _ in range(300):
            tree = plain.some_tree(pick)
            one = Tree(*tree)
            names = [row[0] for row in tree]
            self.assertEqual([one.tree, one.bearing, list(one), len(one)], [tree, tuple(names), names, len(tree)])
            self.assertEqual(tree_read(str(one)), tree)
            for name, parent, room in tree:
                self.assertEqual(one[name], (parent, room))
                rest = tuple(row for row in tree if row[0] != name)
                if plain.tree_fault(rest):
                    refuses(self, NotUsable, {'word': 'folder', 'at': name}, sub, one, name)
                else:
                    self.assertEqual((one - name).tree, rest)
                    self.assertEqual((one - name) + (name, parent, room), one)
            row = (pick.choice([*plain.SIX, 'q']), pick.choice(['', *plain.SIX]), pick.randrange(3))
            longer = tuple(sorted((*tree, row)))
            if plain.tree_fault((row,)) == ('folder', 0) or row[0] in names or plain.tree_fault(longer):
                refuses(self, NotUsable, {'word': 'row', 'at': -1}, add, one, row)
            else:
                self.assertEqual((one + row).tree, longer)
                self.assertEqual(one + row - row[0], one)

    def test_large(self):
        for many in (16, 32):
            names = plain.MANY_NAMES[:many]
            one = Tree.flat(*names[::-1], room=BIG)
            self.assertEqual([len(one), list(one), one[names[-1]]], [many, names, ('', BIG)])
            self.assertEqual(len(one + ('z', names[3], BIG)), many + 1)


if __name__ == '__main__':
    unittest.main()
