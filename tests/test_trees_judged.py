"""Points 3 and 12: lets_tree."""

import random
import unittest

import plain
from support import BIG, ODD, TREE, gives, parameters, refuses

from roomrings.errors import InvalidPaper
from roomrings.treechecker import lets_tree


class TreesJudged(unittest.TestCase):

    def fault(self, word, at, thing):
        refuses(self, InvalidPaper, {'word': word, 'at': at}, lets_tree, thing)
        refuses(self, InvalidPaper, {'word': word, 'at': at}, lets_tree, thing=thing)

    def test_parameters(self):
        self.assertEqual(parameters(lets_tree), ['thing'])

    def test_trees(self):
        gives(self, 4, lets_tree, TREE)
        gives(self, 4, lets_tree, thing=TREE)
        gives(self, 1, lets_tree, (('a', '', 0),))
        gives(self, 2, lets_tree, (('a', 'b', 5), ('b', '', 1)))
        gives(self, 2, lets_tree, (('a', '', BIG), ('abcdefgh', 'a', BIG)))

    def test_example(self):
        self.fault('within', 0, (('a', 'b', 1), ('b', 'c', 1), ('c', 'b', 1)))

    def test_shape(self):
        for thing in ODD:
            if not isinstance(thing, tuple) or not thing:
                self.fault('shape', -1, thing)
        self.fault('shape', -1, list(TREE))

    def test_folder(self):
        for thing in ODD:
            if not (isinstance(thing, tuple) and len(thing) == 3 and plain.tree_fault((thing,)) in (None, ('parent', 0))):
                self.fault('folder', 0, (thing,))
                self.fault('folder', 1, (('a', '', 1), thing))
                self.fault('folder', 1, (('a', '', 1), thing, None))

    def test_parts_of_a_folder(self):
        for thing in ODD:
            for row in ((thing, '', 1), ('b', thing, 1), ('b', '', thing)):
                tree = (('a', '', 1), row)
                found = plain.tree_fault(tree)
                if found is None:
                    gives(self, 2, lets_tree, tree)
                else:
                    self.fault(*found, tree)

    def test_names_ascend(self):
        self.fault('folder', 1, (('b', '', 1), ('a', '', 1)))
        self.fault('folder', 1, (('a', '', 1), ('a', '', 1)))
        self.fault('folder', 1, (('a', '', 1), ('a', '', 2)))
        self.fault('folder', 2, (('a', '', 1), ('b', '', 1), ('ab', '', 1)))
        self.fault('folder', 0, (('a', 'a', 1),))

    def test_parent(self):
        self.fault('parent', 0, (('a', 'b', 1),))
        self.fault('parent', 1, (('a', '', 1), ('b', 'c', 1)))
        self.fault('parent', 0, (('a', 'x', 1), ('b', 'y', 1)))

    def test_within(self):
        self.fault('within', 0, (('a', 'b', 1), ('b', 'a', 1)))
        self.fault('within', 1, (('a', '', 1), ('b', 'c', 1), ('c', 'b', 1), ('d', 'a', 1)))
        self.fault('within', 1, (('a', '', 1), ('b', 'd', 1), ('c', 'd', 1), ('d', 'c', 1)))
        self.fault('within', 2, (('a', '', 1), ('b', 'a', 1), ('c', 'd', 1), ('d', 'e', 1), ('e', 'c', 1)))

    def test_two_faults(self):
        self.fault('folder', 0, (('a', 'a', 1), ('b', 'z', 1)))
        self.fault('folder', 2, (('a', 'z', 1), ('b', '', 1), None))
        self.fault('folder', 2, (('a', 'b', 1), ('b', 'a', 1), ('b', '', 1)))
        self.fault('folder', 1, (('a', '', 1), ('b', '', -1), ('c', '', True)))
        self.fault('parent', 2, (('a', 'b', 1), ('b', 'a', 1), ('c', 'z', 1)))

    def test_deep_and_large_trees(self):
        for many in (16, 32):
            names = plain.MANY_NAMES[:many]
            for turned in (False, True):
                chain = names[::-1] if turned else names
                up = dict(zip(chain, ['', *chain]))
                gives(self, many, lets_tree, tuple((name, up[name], BIG) for name in names))
                up[chain[0]] = chain[-1]
                self.fault('within', 0, tuple((name, up[name], BIG) for name in names))
            gives(self, many, lets_tree, tuple((name, '', 0) for name in names))

    def test_random_trees(self):
        pick = random.Random(12)
        for _ in range(400):
            tree = plain.some_tree(pick)
            gives(self, len(tree), lets_tree, tree)

    def test_random_faults(self):
        pick = random.Random(3)
        seen = set()
        for _ in range(4000):
            tree = plain.some_tree(pick)
            for _ in range(pick.randrange(1, 3)):
                tree = plain.broken(pick, tree, [*plain.SIX, '', 1, True, None, ('a', '', 1), ['a'], (), -1])
            found = plain.tree_fault(tree)
            if found is None:
                gives(self, len(tree), lets_tree, tree)
            else:
                seen.add(found[0])
                self.fault(*found, tree)
        self.assertEqual(seen, {'shape', 'folder', 'parent', 'within'})

    def test_random_parents(self):
        pick = random.Random(4)
        for _ in range(2000):
            names = plain.SIX[:pick.randrange(1, 6)]
            tree = tuple((name, pick.choice([other for other in ('', *names) if other != name]), 1) for name in names)
            found = plain.tree_fault(tree)
            if found is None:
                gives(self, len(tree), lets_tree, tree)
            else:
                self.fault(*found, tree)


if __name__ == '__main__':
    unittest.main()
