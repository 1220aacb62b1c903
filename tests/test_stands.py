"""Points 4, 10, 14 and 15: lets_stand; files_in, used, free, full_folders."""

import random
import unittest

import plain
from support import BIG, ODD, STAND, TREE, by_name_turned, gives, parameters, refuses

from roomrings.errors import InvalidPaper, NotUsable
from roomrings.standchecker import lets_stand
from roomrings.stands import files_in, free, full_folders, used

OF_A_FOLDER = [files_in, used, free]
NO_TREE = {'word': 'tree', 'at': -1}
NO_STAND = {'word': 'stand', 'at': -1}


class StandsJudged(unittest.TestCase):

    def fault(self, word, at, tree, thing):
        refuses(self, InvalidPaper, {'word': word, 'at': at}, lets_stand, tree, thing)
        refuses(self, InvalidPaper, {'word': word, 'at': at}, lets_stand, thing=thing, tree=tree)

    def test_parameters(self):
        self.assertEqual(parameters(lets_stand), ['tree', 'thing'])

    def test_examples(self):
        gives(self, 3, lets_stand, TREE, STAND)
        self.fault('full', 'top', TREE, (2, 1, 1, 1))

    def test_stands(self):
        gives(self, 0, lets_stand, TREE, (0, 0, 0, 0))
        gives(self, 4, lets_stand, TREE, (2, 1, 1, 0))
        gives(self, 3, lets_stand, TREE, (0, 0, 0, 3))
        gives(self, 3, lets_stand, thing=STAND, tree=TREE)

    def test_shape(self):
        for thing in ODD:
            if not isinstance(thing, tuple) or len(thing) != 4:
                self.fault('shape', -1, TREE, thing)
            if not isinstance(thing, tuple) or len(thing) != 1:
                self.fault('shape', -1, (('a', '', BIG),), thing)
        self.fault('shape', -1, TREE, (1, 1, 1, 0, 0))
        self.fault('shape', -1, TREE, ())

    def test_count(self):
        for thing in ODD:
            if not plain.is_plain_number(thing):
                for k in range(4):
                    self.fault('count', k, TREE, (*STAND[:k], thing, *STAND[k + 1:]))

    def test_full(self):
        self.fault('full', 'a', TREE, (3, 0, 0, 0))
        self.fault('full', 'b', TREE, (0, 2, 0, 0))
        self.fault('full', 'c', TREE, (0, 0, 2, 0))
        self.fault('full', 'top', TREE, (0, 0, 0, 4))
        self.fault('full', 'top', TREE, (2, 1, 0, 1))
        self.fault('full', 'a', (('a', 'b', 0), ('b', '', 0)), (1, 0))
        self.fault('full', 'a', (('a', '', 1), ('b', 'a', 2)), (0, 2))

    def test_two_faults(self):
        self.fault('count', 1, TREE, (9, True, 0, None))
        self.fault('count', 3, TREE, (9, 9, 9, -1))
        self.fault('full', 'b', TREE, (2, 2, 2, 9))
        self.fault('shape', -1, TREE, (None, 9))

    def test_numbers_of_sixty_digits(self):
        tree = (('a', 'b', BIG), ('b', '', BIG))
        gives(self, BIG, lets_stand, tree, (BIG - 1, 1))
        self.fault('full', 'b', tree, (BIG, 1))
        self.fault('full', 'a', tree, (BIG + 1, 0))

    def test_random_stands(self):
        pick = random.Random(14)
        for _ in range(300):
            tree = plain.some_tree(pick)
            stand = plain.some_stand(pick, tree)
            gives(self, sum(stand), lets_stand, tree, stand)

    def test_random_faults(self):
        pick = random.Random(15)
        seen = set()
        for _ in range(3000):
            tree = plain.some_tree(pick)
            stand = plain.broken(pick, plain.some_stand(pick, tree), [0, 1, 2, 3, True, None, -1, (1,), [1], 'a'])
            found = plain.stand_fault(tree, stand)
            if found is None:
                gives(self, sum(stand), lets_stand, tree, stand)
            else:
                seen.add(found[0])
                self.fault(*found, tree, stand)
        self.assertEqual(seen, {'shape', 'count', 'full'})

    def test_wrong_tree(self):
        for thing in ODD:
            if plain.tree_fault(thing):
                refuses(self, NotUsable, NO_TREE, lets_stand, thing, STAND)
                refuses(self, NotUsable, NO_TREE, lets_stand, thing=None, tree=thing)


class Stands(unittest.TestCase):

    def test_parameters(self):
        for call in OF_A_FOLDER:
            self.assertEqual(parameters(call), ['tree', 'stand', 'folder'])
        self.assertEqual(parameters(full_folders), ['tree', 'stand'])

    def test_examples(self):
        gives(self, 0, files_in, TREE, STAND, 'top')
        gives(self, 2, used, TREE, STAND, 'top')
        gives(self, ('b', 'c'), full_folders, TREE, STAND)

    def test_ordinary(self):
        self.assertEqual([files_in(TREE, STAND, row[0]) for row in TREE], [1, 1, 1, 0])
        self.assertEqual([used(TREE, STAND, row[0]) for row in TREE], [1, 1, 1, 2])
        self.assertEqual([free(TREE, STAND, row[0]) for row in TREE], [1, 0, 0, 1])
        gives(self, (), full_folders, TREE, (0, 0, 0, 0))
        gives(self, ('a', 'b', 'c', 'top'), full_folders, TREE, (2, 1, 1, 0))
        gives(self, ('a', 'b'), full_folders, (('a', '', 0), ('b', 'a', 0)), (0, 0))

    def test_by_name(self):
        for call in OF_A_FOLDER:
            for name in ('a', 'top'):
                turned = by_name_turned(call, ['tree', 'stand', 'folder'], [TREE, STAND, name])
                self.assertEqual(turned, call(TREE, STAND, name))
        self.assertEqual(full_folders(stand=STAND, tree=TREE), ('b', 'c'))

    def test_against_the_plain_reading(self):
        pick = random.Random(16)
        for _ in range(300):
            tree = plain.some_tree(pick)
            stand = plain.some_stand(pick, tree)
            full = []
            for (name, _, room), many in zip(tree, stand):
                uses = plain.uses(tree, stand, name)
                gives(self, many, files_in, tree, stand, name)
                gives(self, uses, used, tree, stand, name)
                gives(self, room - uses, free, tree, stand, name)
                full += [name] if uses == room else []
            gives(self, tuple(full), full_folders, tree, stand)

    def test_large_trees_and_numbers(self):
        for many in (16, 32):
            names = plain.MANY_NAMES[:many]
            tree = tuple((name, parent, BIG) for name, parent in zip(names, ['', *names]))
            stand = (1,) * (many - 1) + (BIG - many,)
            gives(self, BIG - 1, used, tree, stand, names[0])
            gives(self, 1, free, tree, stand, names[0])
            gives(self, BIG - many, files_in, tree, stand, names[-1])
            gives(self, (), full_folders, tree, stand)
            gives(self, (names[0],), full_folders, tree, (2, *stand[1:]))

    def test_wrong_tree(self):
        for thing in ODD:
            if plain.tree_fault(thing):
                for call in OF_A_FOLDER:
                    refuses(self, NotUsable, NO_TREE, call, thing, STAND, 'a')
                    refuses(self, NotUsable, NO_TREE, call, folder=None, stand=None, tree=thing)
                refuses(self, NotUsable, NO_TREE, full_folders, thing, STAND)
                refuses(self, NotUsable, NO_TREE, full_folders, thing, None)

    def test_wrong_stand(self):
        for thing in [*ODD, (3, 0, 0, 0), (1, 1, 1, 2), (1, 1, 1, -1)]:
            if plain.stand_fault(TREE, thing):
                for call in OF_A_FOLDER:
                    refuses(self, NotUsable, NO_STAND, call, TREE, thing, 'a')
                    refuses(self, NotUsable, NO_STAND, call, folder=['a'], stand=thing, tree=TREE)
                refuses(self, NotUsable, NO_STAND, full_folders, TREE, thing)

    def test_wrong_folder(self):
        for thing in ODD:
            if thing not in ('a', 'c', 'top'):
                for call in OF_A_FOLDER:
                    refuses(self, NotUsable, {'word': 'folder', 'at': thing}, call, TREE, STAND, thing)
                    refuses(self, NotUsable, {'word': 'folder', 'at': thing}, call, folder=thing, stand=STAND, tree=TREE)

    def test_files_are_those_that_the_outermost_folders_use(self):
        pick = random.Random(17)
        for _ in range(200):
            tree = plain.some_tree(pick)
            stand = plain.some_stand(pick, tree)
            self.assertEqual(lets_stand(tree, stand), sum(used(tree, stand, row[0]) for row in tree if not row[1]))


if __name__ == '__main__':
    unittest.main()
