"""Points 7, 9 (O8), 10, 49 and 57: fewest_widened, rings_apart."""

import itertools
import unittest

import plain
from support import (BIG, BOTH, DEEP, FULL, LOT, NEAR, STAND, STUCK, SWAP, TREE, gives, parameters, refuses,
                     small_cases, takes_arguments)

from roomrings.asides import fewest_aside
from roomrings.errors import NotUsable
from roomrings.rings import inner_rings
from roomrings.widening import fewest_widened, rings_apart

NEST, CROSS = (('a', 'p', 1), ('b', 'p', 1), ('p', '', 3), ('q', '', 1)), (('a', 'b'), ('b', 'a'), ('p', 'q'), ('q', 'p'))
CALLS = [fewest_widened, rings_apart]


class Widening(unittest.TestCase):

    def check(self, tree, stand, lot, many, rings=None):
        """Checks what is told of a lot, if so few folders have to be widened; rings are all that there are."""
        names = [row[0] for row in tree]
        widened, apart = fewest_widened(tree, stand, lot), rings_apart(tree, stand, lot)
        self.assertEqual([widened.__class__, apart.__class__], [tuple, tuple])
        self.assertEqual(list(widened), sorted(set(widened)))
        self.assertLessEqual(set(widened), set(names))
        self.assertEqual([len(widened), len(apart)], [many, many], (tree, stand, lot))
        self.assertEqual(list(apart), sorted(set(apart)))
        rings = plain.all_rings(tree, stand, lot) if rings is None else rings
        for ring in apart:
            self.assertIs(ring.__class__, tuple)
            self.assertIn(ring, rings)
        met = [name for ring in apart for name in ring]
        self.assertEqual(len(met), len(set(met)))
        for ring in rings:
            self.assertTrue(set(ring) & set(widened), (tree, stand, lot))

    def test_parameters(self):
        for call in CALLS:
            self.assertEqual(parameters(call), ['tree', 'stand', 'lot'])

    def test_examples(self):
        self.assertEqual([len(fewest_widened(NEAR, BOTH, SWAP)), rings_apart(NEAR, BOTH, SWAP),
                          fewest_widened(TREE, STAND, LOT)], [1, (('a', 'b'),), ()])
        self.assertEqual(rings_apart(NEST, (1, 1, 1, 1), CROSS), (('a', 'b'), ('p', 'q')))
        self.assertIn(fewest_widened(DEEP, FULL, SWAP), [('a', 'p'), ('b', 'q')])

    def test_ordinary(self):
        self.check(NEAR, BOTH, SWAP, 1)
        self.check(NEAR, BOTH, (), 0)
        self.check(TREE, STAND, LOT, 0)
        self.check(STUCK, STAND, LOT, 1)
        self.check(NEST, (1, 1, 1, 1), CROSS, 2)
        self.check(DEEP, FULL, SWAP, 2)

    def test_nothing_to_widen(self):
        for lot in ((), LOT, LOT[2:]):
            gives(self, (), fewest_widened, TREE, STAND, lot)
            gives(self, (), rings_apart, TREE, STAND, lot)

    def test_rings_around_one_another(self):
        # each file lies in three full folders, and every choice of one of the three for each is a ring
        tree = (('a', 'b', 1), ('b', 'c', 1), ('c', '', 1), ('d', 'e', 1), ('e', 'f', 1), ('f', '', 1))
        stand = (1, 0, 0, 1, 0, 0)
        self.assertEqual(len(plain.all_rings(tree, stand, (('a', 'd'), ('d', 'a')))), 9)
        self.check(tree, stand, (('a', 'd'), ('d', 'a')), 3)
        self.assertEqual(fewest_aside(tree, stand, (('a', 'd'), ('d', 'a'))), 1)
        # where only one of the files lies so deep, the folder of the other one is in each ring
        self.check((*tree[:4], ('e', 'f', 2), ('f', '', 2)), stand, (('a', 'd'), ('d', 'a')), 1)

    def test_rings_beside_one_another(self):
        tree = tuple((name, '', 1) for name in 'abcdef')
        lot = (('a', 'b'), ('b', 'a'), ('c', 'd'), ('d', 'c'), ('e', 'f'), ('f', 'e'))
        self.check(tree, (1,) * 6, lot, 3)
        # rings beside one another in a folder that is in a ring itself
        inside = (('a', 'p', 1), ('b', 'p', 1), ('c', 'p', 1), ('d', 'p', 1), ('p', '', 5), ('q', '', 1))
        lot = (('a', 'b'), ('b', 'a'), ('c', 'd'), ('d', 'c'), ('p', 'q'), ('q', 'p'))
        self.check(inside, (1,) * 6, lot, 3)
        self.assertEqual(fewest_aside(inside, (1,) * 6, lot), 2)

    def test_two_folders_where_one_file_aside_would_do(self):
        # moves into inner folders: the folders around both ends of each are full
        self.check(DEEP, FULL, SWAP, 2)
        self.assertEqual(fewest_aside(DEEP, FULL, SWAP), 1)
        deep = (('a', 'p', 1), ('b', 'q', 1), ('c', 'r', 1), ('p', '', 1), ('q', '', 1), ('r', '', 1))
        lot = (('a', 'b'), ('b', 'c'), ('c', 'a'))
        self.check(deep, (1, 1, 1, 0, 0, 0), lot, 2)
        self.assertEqual(fewest_aside(deep, (1, 1, 1, 0, 0, 0), lot), 1)

    def test_a_round_of_many_needs_one_folder(self):
        tree = tuple((name, '', 1) for name in 'abcdef')
        self.check(tree, (1,) * 6, tuple(sorted(zip('abcdef', 'bcdefa'))), 1)

    def test_folders_without_room(self):
        # a folder without files is full if it has no room, and is in a ring if moves cross it
        tree = (('a', '', 1), ('b', 'z', 1), ('z', '', 1))
        self.check(tree, (1, 1, 0), (('a', 'b'), ('b', 'a')), 1)
        self.check((('a', '', 0), ('b', '', 1)), (0, 1), (), 0)

    def test_against_a_search_over_orders(self):
        seen = []
        for tree, stand, lot in [*small_cases(200, 250, plain.some_fitting, plain.SIX[:5], 5),
                                 *small_cases(201, 200, plain.some_stuck, plain.SIX[:5], 6)]:
            many = plain.fewest_wider(tree, lambda wide: plain.some_order(wide, stand, lot) is None)
            self.check(tree, stand, lot, many)
            self.assertEqual(many, plain.most_apart(plain.all_rings(tree, stand, lot)))
            widened = fewest_widened(tree, stand, lot)
            self.assertIsNotNone(plain.some_order(plain.wider(tree, widened), stand, lot))
            seen.append(many)
        self.assertGreater(seen.count(1), 40)
        self.assertGreater(seen.count(2), 5)

    def test_against_a_search_over_rings(self):
        seen = []
        for tree, stand, lot in small_cases(202, 120, plain.some_stuck, plain.MANY_NAMES[:7], 9):
            rings = plain.all_rings(tree, stand, lot)
            many = plain.fewest_wider(tree, lambda wide: plain.all_rings(wide, stand, lot))
            self.assertEqual(many, plain.most_apart(rings))
            self.check(tree, stand, lot, many, rings)
            seen.append(many)
        self.assertGreater(len(seen) - seen.count(0), 40)

    def test_all_lots_of_small_trees(self):
        moves = list(itertools.permutations(('a', 'b', 'p', 'q'), 2))
        for tree in (DEEP, (('a', 'p', 1), ('b', 'p', 1), ('p', 'q', 2), ('q', '', 2))):
            for many in range(5):
                for lot in itertools.combinations(moves, many):
                    stand = (1, 1, 0, 0)
                    if plain.lot_fault(tree, stand, lot) is None:
                        if plain.crowded(tree, plain.at_end(tree, stand, lot)):
                            continue
                        rings = plain.all_rings(tree, stand, lot)
                        self.check(tree, stand, lot, plain.most_apart(rings), rings)

    def test_never_fewer_than_files_aside(self):
        for tree, stand, lot in [*small_cases(203, 300, plain.some_fitting, plain.SIX, 7),
                                 *small_cases(204, 150, plain.some_stuck)]:
            self.assertLessEqual(fewest_aside(tree, stand, lot), len(fewest_widened(tree, stand, lot)))
            self.assertEqual(inner_rings(tree, stand, lot) == (), fewest_widened(tree, stand, lot) == ())

    def test_the_same_for_the_lot_turned_about(self):
        for tree, stand, lot in [*small_cases(205, 200, plain.some_fitting, plain.SIX, 7),
                                 *small_cases(206, 150, plain.some_stuck)]:
            end, turned = plain.at_end(tree, stand, lot), tuple(sorted(move[::-1] for move in lot))
            self.assertEqual(len(fewest_widened(tree, stand, lot)), len(fewest_widened(tree, end, turned)))
            self.assertEqual(len(rings_apart(tree, stand, lot)), len(rings_apart(tree, end, turned)))

    def test_how_often_there_is_a_move_does_not_matter(self):
        for many in (1, 2, 12):
            tree, lot = (('a', '', 13), ('b', '', 13)), tuple(sorted(SWAP * many))
            self.check(tree, (13, 13), lot, 1)
            self.check(tree, (12, 13), lot, 0)

    def test_large(self):
        names = plain.MANY_NAMES[:12]
        tree = tuple((name, '', BIG) for name in names)
        lot = tuple(sorted([*zip(names[::2], names[1::2]), *zip(names[1::2], names[::2])] * 2))
        self.assertEqual(len(lot), 24)
        self.assertEqual(len(fewest_widened(tree, (BIG,) * 12, lot)), 6)
        self.assertEqual(rings_apart(tree, (BIG,) * 12, lot), tuple(zip(names[::2], names[1::2])))
        # six folders within one another, twice: a ring at each depth
        chain = tuple((name, ('', *names)[k] if k % 6 else '', 1) for k, name in enumerate(names))
        stand = tuple(int(k % 6 == 5) for k in range(12))
        swap = ((names[5], names[11]), (names[11], names[5]))
        self.assertIn(fewest_widened(chain, stand, swap), [tuple(names[:6]), tuple(names[6:])])
        self.assertEqual(len(rings_apart(chain, stand, swap)), 6)

    def test_ends_that_do_not_fit(self):
        seen = 0
        for tree, stand, lot in small_cases(207, 300):
            crowded = plain.crowded(tree, plain.at_end(tree, stand, lot))
            if crowded:
                seen += 1
                for call in CALLS:
                    refuses(self, NotUsable, {'word': 'end', 'at': crowded[0]}, call, tree, stand, lot)
                    refuses(self, NotUsable, {'word': 'end', 'at': crowded[0]}, call, lot=lot, stand=stand, tree=tree)
        self.assertGreater(seen, 20)

    def test_arguments(self):
        for call in CALLS:
            takes_arguments(self, call, TREE, STAND, LOT)
            # the end comes behind tree, stand and lot, and is told by the least folder
            refuses(self, NotUsable, {'word': 'lot', 'at': -1}, call, NEAR, BOTH, (('', 'a'), ('', 'a'), ('', 'x')))
            refuses(self, NotUsable, {'word': 'end', 'at': 'a'}, call, NEAR, BOTH, (('', 'a'), ('', 'b')))
            refuses(self, NotUsable, {'word': 'end', 'at': 'p'}, call, DEEP, (0, 1, 1, 0), (('', 'p'),))


if __name__ == '__main__':
    unittest.main()
