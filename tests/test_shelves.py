"""Points 10 and 21: class Shelf, and the consequences at the end of stage 4."""

import random
import unittest
from operator import add, contains, getitem, sub

import plain
from support import BIG, ODD, STAND, TREE, Other, by_name_turned, gives, parameters, refuses

from roomrings.errors import InvalidText, NotUsable
from roomrings.shelves import Shelf
from roomrings.standchecker import lets_stand
from roomrings.stands import full_folders
from roomrings.trees import Tree
from roomrings.treetexts import stand_words

NO_TREE = {'word': 'tree', 'at': -1}
NO_STAND = {'word': 'stand', 'at': -1}
NO_TREES = [thing for thing in ODD if plain.tree_fault(thing)]
NO_STANDS = [thing for thing in [*ODD, (3, 0, 0, 0), (1, 1, 1, 2), (1, 1, 1, -1)] if plain.stand_fault(TREE, thing)]
THINGS = [*ODD, Other(), object, Shelf]


class Shelves(unittest.TestCase):

    def setUp(self):
        self.one = Shelf(TREE, *STAND)

    def tearDown(self):
        self.assertEqual([self.one.tree, self.one.stand, list(self.one)], [TREE, STAND, ['b', 'c']])

    def test_interface(self):
        self.assertEqual(parameters(Shelf), ['tree', '*numbers'])
        self.assertEqual(parameters(Shelf.of), ['tree', 'stand'])
        self.assertEqual(parameters(Shelf.read), ['tree', 'text'])
        for name in ('tree', 'stand', 'files', 'of', 'read', '__init__', '__getitem__', '__contains__', '__len__',
                     '__iter__', '__eq__', '__str__', '__add__', '__sub__'):
            self.assertIn(name, vars(Shelf))
        self.assertIsInstance(vars(Shelf)['of'], classmethod)
        self.assertIsInstance(vars(Shelf)['read'], classmethod)

    def test_examples(self):
        shelf = Shelf.of(TREE, STAND)
        self.assertEqual([list(shelf), shelf['a'], (shelf + 'a').files, (shelf + 'top').stand, len(shelf + 'a'),
                          Shelf.read(TREE, '1 1 1 0') == shelf], [['b', 'c'], 1, 4, (1, 1, 1, 1), 4, True])
        refuses(self, NotUsable, {'word': 'folder', 'at': 'b'}, add, shelf, 'b')

    def test_properties(self):
        self.assertEqual([self.one.tree, self.one.stand, self.one.files], [TREE, STAND, 3])
        self.assertEqual([self.one.tree.__class__, self.one.stand.__class__], [tuple, tuple])
        self.assertEqual(Shelf((('a', '', BIG),), BIG).files, BIG)

    def test_errors_when_made(self):
        for thing in [*NO_TREES, Other(), Tree(*TREE)]:
            refuses(self, NotUsable, NO_TREE, Shelf, thing, 1, 1, 1, 0)
            refuses(self, NotUsable, NO_TREE, Shelf, thing)
            refuses(self, NotUsable, NO_TREE, Shelf, tree=thing)
        refuses(self, NotUsable, NO_STAND, Shelf, TREE)
        refuses(self, NotUsable, NO_STAND, Shelf, tree=TREE)
        refuses(self, NotUsable, NO_STAND, Shelf, TREE, STAND)
        for thing in THINGS:
            refuses(self, NotUsable, NO_STAND, Shelf, TREE, thing)
            refuses(self, NotUsable, NO_STAND, Shelf, TREE, *STAND, thing)
            if not plain.is_plain_number(thing) or thing > 2:
                for k in range(4):
                    refuses(self, NotUsable, NO_STAND, Shelf, TREE, *STAND[:k], thing, *STAND[k + 1:])
        refuses(self, NotUsable, NO_STAND, Shelf, TREE, 2, 1, 1, 1)

    def test_at(self):
        self.assertEqual([self.one[name] for name in ('a', 'b', 'c', 'top')], list(STAND))
        for thing in [*THINGS, self.one]:
            if thing not in ('a', 'c', 'top'):
                refuses(self, NotUsable, {'word': 'folder', 'at': thing}, getitem, self.one, thing)

    def test_in(self):
        self.assertEqual([name in self.one for name in ('a', 'b', 'c', 'top')], [False, True, True, False])
        for thing in [*THINGS, self.one]:
            self.assertIs(contains(self.one, thing), thing == 'c')

    def test_len_and_iteration(self):
        self.assertEqual([len(self.one), list(self.one), list(self.one)], [2, ['b', 'c'], ['b', 'c']])
        self.assertEqual([len(Shelf(TREE, 0, 0, 0, 0)), list(Shelf(TREE, 0, 0, 0, 0))], [0, []])

    def test_equal(self):
        class Below(Shelf):
            pass
        self.assertIs(self.one == Shelf(TREE, *STAND), True)
        self.assertIs(self.one != Shelf(TREE, *STAND), False)
        self.assertIs(self.one == Below(TREE, *STAND), True)
        self.assertIs(self.one == Shelf(TREE, 0, 1, 1, 1), False)
        self.assertIs(self.one == Shelf((*TREE[:3], ('top', '', 4)), *STAND), False)
        for thing in [*THINGS, Tree(*TREE)]:
            self.assertIs(self.one == thing, False)
            self.assertIs(thing == self.one, False)
            self.assertIs(self.one != thing, True)

    def test_str(self):
        self.assertEqual(str(self.one), '1 1 1 0')
        self.assertEqual(f'{self.one}', stand_words(STAND))

    def test_plus(self):
        more = self.one + 'a'
        self.assertIs(more.__class__, Shelf)
        self.assertEqual([more.tree, more.stand, list(more)], [TREE, (2, 1, 1, 0), ['a', 'b', 'c', 'top']])
        self.assertEqual((Shelf(TREE, 0, 0, 0, 0) + 'b' + 'c').stand, (0, 1, 1, 0))

    def test_plus_full(self):
        for name in ('b', 'c'):
            refuses(self, NotUsable, {'word': 'folder', 'at': name}, add, self.one, name)
        for name in ('a', 'b', 'top'):
            refuses(self, NotUsable, {'word': 'folder', 'at': name}, add, Shelf(TREE, 0, 0, 0, 3), name)
        self.assertEqual((Shelf(TREE, 0, 0, 0, 3) + 'c').stand, (0, 0, 1, 3))
        inner_full = Shelf((('a', 'b', 1), ('b', '', 2)), 1, 0)
        self.assertEqual((inner_full + 'b').stand, (1, 1))

    def test_plus_and_minus_no_folder(self):
        for thing in [*THINGS, self.one, 'x']:
            if thing not in ('a', 'c', 'top'):
                refuses(self, NotUsable, {'word': 'folder', 'at': thing}, add, self.one, thing)
                refuses(self, NotUsable, {'word': 'folder', 'at': thing}, sub, self.one, thing)

    def test_minus(self):
        less = self.one - 'b'
        self.assertIs(less.__class__, Shelf)
        self.assertEqual([less.tree, less.stand, list(less)], [TREE, (1, 0, 1, 0), ['c']])
        refuses(self, NotUsable, {'word': 'folder', 'at': 'top'}, sub, self.one, 'top')
        refuses(self, NotUsable, {'word': 'folder', 'at': 'b'}, sub, less, 'b')

    def test_of(self):
        self.assertIs(Shelf.of(TREE, STAND).__class__, Shelf)
        self.assertEqual(by_name_turned(Shelf.of, ['tree', 'stand'], [TREE, STAND]), self.one)
        for thing in NO_TREES:
            refuses(self, NotUsable, NO_TREE, Shelf.of, thing, STAND)
            refuses(self, NotUsable, NO_TREE, Shelf.of, stand=None, tree=thing)
        for thing in [*NO_STANDS, self.one]:
            refuses(self, NotUsable, NO_STAND, Shelf.of, TREE, thing)
            refuses(self, NotUsable, NO_STAND, Shelf.of, stand=thing, tree=TREE)

    def test_read(self):
        self.assertIs(Shelf.read(TREE, '1 1 1 0').__class__, Shelf)
        self.assertEqual(by_name_turned(Shelf.read, ['tree', 'text'], [TREE, '1 1 1 0']), self.one)
        for thing in NO_TREES:
            refuses(self, NotUsable, NO_TREE, Shelf.read, thing, '1 1 1 0')
            refuses(self, NotUsable, NO_TREE, Shelf.read, thing, None)
            refuses(self, NotUsable, NO_TREE, Shelf.read, thing, '01')
        for thing in ODD:
            if not isinstance(thing, str):
                refuses(self, NotUsable, {'word': 'text', 'at': -1}, Shelf.read, TREE, thing)
        for text, field in (('', 0), ('1 1 01 0', 2), ('1 x', 1), ('1 1 1 0 ', 4), ('9 9 9 9\n', 3), ('1 1 1 0\n', 3)):
            refuses(self, InvalidText, {'line': 0, 'field': field}, Shelf.read, TREE, text)
        for text in ('1', '1 1 1', '1 1 1 0 0', '3 0 0 0', '2 1 1 1', '0 0 2 0', '9' * 60):
            refuses(self, NotUsable, NO_STAND, Shelf.read, TREE, text)

    def test_a_shelf_never_changes(self):
        for name in ('tree', 'stand', 'files'):
            with self.assertRaises(AttributeError):
                setattr(self.one, name, ())
        for change in (lambda: self.one + 'a', lambda: self.one - 'a', lambda: self.one['a'], lambda: 'a' in self.one,
                       lambda: str(self.one), lambda: list(self.one), lambda: self.one.files):
            change()
            self.assertEqual(self.one, Shelf(TREE, *STAND))
        same = self.one
        same += 'a'
        self.assertEqual([same.files, self.one.files], [4, 3])

    def test_what_it_was_made_of_can_be_changed(self):
        numbers = [1, 1, 1, 0]
        one = Shelf(TREE, *numbers)
        numbers[0] = 7
        names = list(one)
        names.clear()
        self.assertEqual([one.stand, one.files, list(one)], [STAND, 3, ['b', 'c']])
        again = Shelf.of(one.tree, one.stand)
        self.assertEqual([again == one, (again + 'a').files, one.files], [True, 4, 3])

    def test_random_shelves(self):
        pick = random.Random(32)
        for _ in range(300):
            tree = plain.some_tree(pick)
            stand = plain.some_stand(pick, tree)
            one = Shelf(tree, *stand)
            full = [row[0] for row in tree if plain.uses(tree, stand, row[0]) == row[2]]
            self.assertEqual([list(one), len(one), one.files, str(one)],
                             [full, len(full), sum(stand), ' '.join(map(str, stand))])
            self.assertEqual(Shelf.read(tree, str(one)), one)
            for k, (name, _, _) in enumerate(tree):
                self.assertEqual([one[name], name in one], [stand[k], name in full])
                more = (*stand[:k], stand[k] + 1, *stand[k + 1:])
                less = (*stand[:k], stand[k] - 1, *stand[k + 1:])
                for call, back, changed in ((add, sub, more), (sub, add, less)):
                    if plain.stand_fault(tree, changed):
                        refuses(self, NotUsable, {'word': 'folder', 'at': name}, call, one, name)
                    else:
                        self.assertEqual(call(one, name).stand, changed)
                        self.assertEqual(back(call(one, name), name), one)

    def test_large(self):
        for many in (16, 32):
            names = plain.MANY_NAMES[:many]
            tree = tuple((name, parent, BIG) for name, parent in zip(names, ['', *names]))
            one = Shelf(tree, *[0] * (many - 1), BIG - 1)
            self.assertEqual([len(one), len(one + names[3]), (one + names[-1]).files], [0, 4, BIG])


class Consequences(unittest.TestCase):

    def test_files_are_the_sum_of_what_the_outermost_folders_use(self):
        pick = random.Random(33)
        for _ in range(200):
            tree = plain.some_tree(pick)
            one = Shelf.of(tree, plain.some_stand(pick, tree))
            outer = [row[0] for row in tree if not row[1]]
            self.assertEqual(one.files, sum(plain.uses(tree, one.stand, name) for name in outer))
            self.assertEqual(one.files, lets_stand(tree, one.stand))
            gives(self, tuple(one), full_folders, tree, one.stand)


if __name__ == '__main__':
    unittest.main()
