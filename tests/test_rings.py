"""Points 3 to 7, 9 (O4, O5), 10, 33, 34 and 35: is_ring, greatest_ring, inner_rings."""

import itertools
import unittest

import plain
from support import (BIG, BOTH, DEEP, FOUR, FULL, LATE, LOT, NEAR, ODD, STAND, STUCK, SWAP, TREE, TWICE, Other,
                     gives, parameters, refuses, small_cases, takes_arguments)

from roomrings.ends import end_counts
from roomrings.errors import NotUsable
from roomrings.moving import can_move
from roomrings.rings import greatest_ring, inner_rings, is_ring


def shapes(names):
    """All trees of just these folders, without rooms."""
    for parents in itertools.product(['', *names], repeat=len(names)):
        rows = tuple((name, parent, 0) for name, parent in zip(names, parents))
        if plain.tree_fault(rows) is None:
            yield rows


class Rings(unittest.TestCase):

    def check(self, tree, stand, lot):
        rings = plain.all_rings(tree, stand, lot)
        gives(self, plain.greatest(tree, rings), greatest_ring, tree, stand, lot)
        gives(self, plain.inner(tree, rings), inner_rings, tree, stand, lot)
        return rings

    def check_sets(self, tree, stand, lot, rings):
        names = [row[0] for row in tree]
        for many in range(len(names) + 1):
            for chosen in itertools.combinations(names, many):
                gives(self, chosen in rings, is_ring, tree, stand, lot, chosen)

    def test_parameters(self):
        self.assertEqual(parameters(is_ring), ['tree', 'stand', 'lot', 'thing'])
        self.assertEqual(parameters(greatest_ring), ['tree', 'stand', 'lot'])
        self.assertEqual(parameters(inner_rings), ['tree', 'stand', 'lot'])

    def test_examples(self):
        self.assertEqual([is_ring(STUCK, STAND, LOT, ('c', 'top')), is_ring(STUCK, STAND, LOT, ('b', 'c')),
                          is_ring(STUCK, STAND, LOT, ['c', 'top']), greatest_ring(STUCK, STAND, LOT),
                          greatest_ring(TREE, STAND, LOT)], [True, False, False, ('c', 'top'), ()])
        self.assertEqual([is_ring(DEEP, FULL, SWAP, names)
                          for names in (('a', 'b'), ('a', 'q'), ('p', 'q'), ('a', 'p'))], [True, True, True, False])
        self.assertEqual([greatest_ring(DEEP, FULL, SWAP), inner_rings(DEEP, FULL, SWAP)],
                         [('p', 'q'), (('a', 'b'),)])
        self.assertEqual([greatest_ring(FOUR, (1, 1, 1, 1), TWICE), inner_rings(FOUR, (1, 1, 1, 1), TWICE)],
                         [('a', 'b', 'c', 'd'), (('a', 'b'), ('c', 'd'))])
        self.assertEqual([greatest_ring(NEAR, BOTH, SWAP), greatest_ring(NEAR, BOTH, LATE)], [('a', 'b'), ()])

    def test_no_moves(self):
        gives(self, (), greatest_ring, NEAR, BOTH, ())
        gives(self, (), inner_rings, NEAR, BOTH, ())
        for names in ((), ('a',), ('a', 'b')):
            gives(self, False, is_ring, NEAR, BOTH, (), names)

    def test_from_and_to_outside(self):
        for lot in ((('', 'a'),), (('a', ''),), (('', 'a'), ('a', 'b'), ('b', '')), (*SWAP, ('b', ''))):
            if plain.lot_fault(NEAR, BOTH, lot) is None:
                gives(self, (), greatest_ring, NEAR, BOTH, lot)
                gives(self, False, is_ring, NEAR, BOTH, lot, ('a', 'b'))

    def test_one_that_is_not_crossed_is_no_part(self):
        names = (*SWAP,)
        gives(self, False, is_ring, FOUR, (1, 1, 1, 1), names, ('a', 'b', 'c'))
        gives(self, ('a', 'b'), greatest_ring, FOUR, (1, 1, 1, 1), names)

    def test_moves_within_a_folder_of_a_ring_do_not_cross_it(self):
        tree = (('a', 'p', 1), ('b', 'p', 1), ('p', '', 3), ('q', '', 1))
        lot = (('a', 'b'), ('b', 'a'), ('p', 'q'), ('q', 'p'))
        gives(self, ('p', 'q'), greatest_ring, tree, (1, 1, 1, 1), lot)
        gives(self, (('a', 'b'),), inner_rings, tree, (1, 1, 1, 1), lot)
        gives(self, False, is_ring, tree, (1, 1, 1, 1), lot, ('p',))
        gives(self, True, is_ring, tree, (1, 1, 1, 1), lot, ('p', 'q'))
        gives(self, True, is_ring, tree, (1, 1, 1, 1), lot, ('a', 'b'))

    def test_rings_beside_one_another(self):
        tree = (('a', 'p', 1), ('b', 'p', 1), ('c', 'p', 1), ('d', 'p', 1), ('e', '', 1), ('f', '', 1), ('p', '', 9))
        lot = tuple(sorted([('a', 'b'), ('b', 'a'), ('c', 'd'), ('d', 'c'), ('e', 'f'), ('f', 'e')]))
        stand = (1, 1, 1, 1, 1, 1, 0)
        gives(self, ('a', 'b', 'c', 'd', 'e', 'f'), greatest_ring, tree, stand, lot)
        gives(self, (('a', 'b'), ('c', 'd'), ('e', 'f')), inner_rings, tree, stand, lot)
        rings = plain.all_rings(tree, stand, lot)
        self.assertEqual(len(rings), 7)
        self.check_sets(tree, stand, lot, rings)

    def test_rings_around_one_another(self):
        # a and b change places, and so do the folders around them
        tree = (('a', 'aa', 1), ('aa', 'aaa', 1), ('aaa', '', 1), ('b', 'bb', 1), ('bb', 'bbb', 1), ('bbb', '', 1))
        stand = (1, 0, 0, 1, 0, 0)
        lot = (('a', 'b'), ('b', 'a'))
        gives(self, ('aaa', 'bbb'), greatest_ring, tree, stand, lot)
        gives(self, (('a', 'b'),), inner_rings, tree, stand, lot)
        rings = plain.all_rings(tree, stand, lot)
        self.assertEqual(len(rings), 9)
        self.check_sets(tree, stand, lot, rings)
        # a move to a folder around makes the inner ones free of a ring
        tree = (('a', 'aa', 1), ('aa', 'aaa', 2), ('aaa', '', 2), ('b', 'bb', 1), ('bb', '', 1))
        lot = (('a', 'b'), ('b', 'aa'))
        gives(self, ('aaa', 'bb'), greatest_ring, tree, (1, 1, 0, 1, 0), lot)
        gives(self, (('aa', 'b'),), inner_rings, tree, (1, 1, 0, 1, 0), lot)

    def test_a_ring_within_one_folder(self):
        tree = (('a', 'p', 1), ('b', 'p', 1), ('p', '', 2))
        gives(self, ('a', 'b'), greatest_ring, tree, (1, 1, 0), SWAP)
        gives(self, False, is_ring, tree, (1, 1, 0), SWAP, ('p',))

    def test_folders_with_no_room(self):
        tree = (('a', 'p', 0), ('b', 'p', 1), ('c', '', 0), ('p', '', 1))
        for lot in itertools.combinations_with_replacement(itertools.permutations(('', 'a', 'b', 'c', 'p'), 2), 2):
            if plain.lot_fault(tree, (0, 1, 0, 0), lot) is None:
                rings = self.check(tree, (0, 1, 0, 0), lot)
                self.check_sets(tree, (0, 1, 0, 0), lot, rings)

    def test_all_sets_of_folders(self):
        met = set()
        for tree, stand, lot in small_cases(70, 700, plain.some_case, plain.SIX):
            rings = self.check(tree, stand, lot)
            self.check_sets(tree, stand, lot, rings)
            met.add((len(rings) > 1, plain.crowded(tree, plain.at_end(tree, stand, lot)) == ()))
        self.assertEqual(len(met), 4)

    def test_all_small_trees(self):
        moves = list(itertools.permutations(('', 'a', 'b', 'c'), 2))
        for shape in shapes(('a', 'b', 'c')):
            stand = (1, 1, 1)
            tree = tuple((*row[:2], plain.uses(shape, stand, row[0])) for row in shape)
            for many in range(4):
                for lot in itertools.combinations(moves, many):
                    if plain.lot_fault(tree, stand, tuple(sorted(lot))) is None:
                        self.check(tree, stand, tuple(sorted(lot)))

    def test_larger_ones(self):
        for tree, stand, lot in small_cases(71, 60, plain.some_case, plain.MANY_NAMES[:9], 14):
            self.check(tree, stand, lot)

    def test_values_that_are_no_rings(self):
        for thing in [*ODD, Other(), None, 'ab', 'a', ['a', 'b'], ('b', 'a'), ('a', 'a', 'b'), ('a', 'b', 'b'),
                      ('a', 'b', 'x'), ('a', ('b',)), (('a', 'b'),), (('a',), ('b',)), ('a', ['b']), ('a', None),
                      ('', 'a', 'b'), ('a', 'b', ''), {'a', 'b'}, {'a': 1, 'b': 1}, SWAP, True, 1]:
            if thing.__class__ is not tuple or thing != ('a', 'b'):
                gives(self, False, is_ring, NEAR, BOTH, SWAP, thing)
            else:
                gives(self, True, is_ring, NEAR, BOTH, SWAP, thing)

    def test_how_often_there_is_a_move_does_not_matter(self):
        for tree, stand, lot in small_cases(72, 200):
            once = tuple(sorted(set(lot)))
            self.assertEqual(greatest_ring(tree, stand, lot), greatest_ring(tree, stand, once))
            self.assertEqual(inner_rings(tree, stand, lot), inner_rings(tree, stand, once))

    def test_consequences(self):
        for tree, stand, lot in small_cases(73, 300, plain.some_case, plain.SIX):
            rings = plain.all_rings(tree, stand, lot)
            inner = inner_rings(tree, stand, lot)
            greatest = greatest_ring(tree, stand, lot)
            self.assertEqual(greatest == (), inner == ())
            for ring in rings:
                self.assertTrue(any(plain.is_under(tree, other, ring) for other in inner))
                self.assertTrue(plain.is_under(tree, ring, greatest))
                for move in lot:
                    if set(ring) & {*plain.entered(tree, move), *plain.left_by(tree, move)}:
                        self.assertFalse(can_move(tree, stand, move))
                for other in rings:
                    names = sorted({*ring, *other})
                    top = tuple(name for name in names
                                if not any(above in names for above in plain.around(tree, name)[1:]))
                    self.assertTrue(is_ring(tree, stand, lot, top))
            for ring, other in itertools.permutations(inner, 2):
                for name in ring:
                    self.assertEqual(set(plain.around(tree, name)) & set(other), set())

    def test_moves_turned_about_have_the_same_rings(self):
        for tree, stand, lot in small_cases(74, 200, plain.some_fitting, plain.SIX):
            turned = tuple(sorted(move[::-1] for move in lot))
            end = end_counts(tree, stand, lot)
            self.assertEqual(plain.all_rings(tree, end, turned), plain.all_rings(tree, stand, lot))
            self.assertEqual(greatest_ring(tree, end, turned), greatest_ring(tree, stand, lot))
            self.assertEqual(inner_rings(tree, end, turned), inner_rings(tree, stand, lot))

    def test_large(self):
        names = plain.MANY_NAMES[:12]
        tree = tuple((name, '', BIG) for name in names)
        lot = tuple(sorted(list(zip(names, [*names[1:], names[0]])) * 2))
        gives(self, tuple(names), greatest_ring, tree, (BIG,) * 12, lot)
        gives(self, (tuple(names),), inner_rings, tree, (BIG,) * 12, lot)
        gives(self, (), greatest_ring, tree, (BIG,) * 11 + (BIG - 1,), lot)
        gives(self, True, is_ring, tree, (BIG,) * 12, lot, tuple(names))
        pairs = tuple(sorted([*zip(names[::2], names[1::2]), *zip(names[1::2], names[::2])]))
        gives(self, tuple(zip(names[::2], names[1::2])), inner_rings, tree, (BIG,) * 12, pairs)

    def test_arguments(self):
        takes_arguments(self, is_ring, TREE, STAND, LOT, ('b', 'c'))
        takes_arguments(self, is_ring, STUCK, STAND, LOT, ('c', 'top'))
        takes_arguments(self, greatest_ring, TREE, STAND, LOT)
        takes_arguments(self, inner_rings, TREE, STAND, LOT)
        refuses(self, NotUsable, {'word': 'lot', 'at': -1}, is_ring, NEAR, BOTH, (*SWAP, ('b', 'a')), None)


if __name__ == '__main__':
    unittest.main()
