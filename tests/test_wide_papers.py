"""Points 2, 7, 10, 49 and 51: wide_paper, lets_wide."""

import random
import unittest

import plain
from support import (BIG, BOTH, DEEP, FOUR, FULL, LOT, NEAR, ODD, STAND, STUCK, SWAP, TREE, TWICE, Other, gives,
                     parameters, refuses, small_cases, takes_arguments)

from roomrings.errors import InvalidPaper, NotUsable
from roomrings.widechecker import lets_wide
from roomrings.widening import fewest_widened
from roomrings.widepapers import wide_paper

NEST, CROSS = (('a', 'p', 1), ('b', 'p', 1), ('p', '', 3), ('q', '', 1)), (('a', 'b'), ('b', 'a'), ('p', 'q'), ('q', 'p'))
GOOD = ('widened', ('a',), (('a', 'b'),), (('b', 'a'), ('a', 'b')))
PLAIN = ('widened', (), (), (('c', 'a'), ('b', 'c'), ('a', 'b')))


def wide_fault(tree, stand, lot, thing):
    """What is wrong first in a value as a wide paper, by the words of the document; None for a paper."""
    if thing.__class__ is not tuple or len(thing) != 4 or not plain.is_word(thing[0], 'widened'):
        return 'shape', -1
    _, folders, rings, moves = thing
    if any(part.__class__ is not tuple for part in (folders, rings, moves)):
        return 'shape', -1
    if not plain.is_set_of_names(tree, folders):
        return 'folders', -1
    for k, ring in enumerate(rings):
        if not plain.is_set_of_names(tree, ring) or not plain.is_ring(tree, stand, lot, ring):
            return 'ring', k
        if any(name in before for before in rings[:k] for name in ring):
            return 'common', k
    if len(rings) != len(folders):
        return 'many', -1
    return plain.order_fault(plain.wider(tree, folders), stand, lot, moves)


class WidePapers(unittest.TestCase):

    def check(self, tree, stand, lot, many):
        paper = wide_paper(tree, stand, lot)
        self.assertIsNone(wide_fault(tree, stand, lot, paper), (tree, stand, lot, paper))
        gives(self, many, lets_wide, tree, stand, lot, paper)
        self.assertEqual([len(paper[1]), len(fewest_widened(tree, stand, lot))], [many, many])

    def test_parameters(self):
        self.assertEqual(parameters(wide_paper), ['tree', 'stand', 'lot'])

    def test_ordinary(self):
        self.check(NEAR, BOTH, SWAP, 1)
        self.check(TREE, STAND, LOT, 0)
        self.check(STUCK, STAND, LOT, 1)
        self.check(NEST, (1, 1, 1, 1), CROSS, 2)
        self.check(DEEP, FULL, SWAP, 2)
        gives(self, ('widened', (), (), ()), wide_paper, NEAR, BOTH, ())

    def test_each_is_accepted(self):
        seen = []
        for tree, stand, lot in [*small_cases(220, 200, plain.some_fitting, plain.SIX[:5], 6),
                                 *small_cases(221, 150, plain.some_stuck, plain.SIX)]:
            many = plain.most_apart(plain.all_rings(tree, stand, lot))
            self.check(tree, stand, lot, many)
            seen.append(many)
        self.assertGreater(len(seen) - seen.count(0), 60)

    def test_large(self):
        names = plain.MANY_NAMES[:12]
        tree = tuple((name, '', BIG) for name in names)
        lot = tuple(sorted([*zip(names[::2], names[1::2]), *zip(names[1::2], names[::2])] * 2))
        self.check(tree, (BIG,) * 12, lot, 6)

    def test_ends_that_do_not_fit(self):
        for tree, stand, lot in small_cases(222, 200):
            crowded = plain.crowded(tree, plain.at_end(tree, stand, lot))
            if crowded:
                refuses(self, NotUsable, {'word': 'end', 'at': crowded[0]}, wide_paper, tree, stand, lot)
                refuses(self, NotUsable, {'word': 'end', 'at': crowded[0]}, wide_paper, lot=lot, tree=tree, stand=stand)

    def test_arguments(self):
        takes_arguments(self, wide_paper, TREE, STAND, LOT)
        refuses(self, NotUsable, {'word': 'lot', 'at': -1}, wide_paper, NEAR, BOTH, (('', 'a'), ('', 'x')))


class WideChecker(unittest.TestCase):

    def judge(self, tree, stand, lot, thing):
        fault = wide_fault(tree, stand, lot, thing)
        if fault is None:
            gives(self, len(thing[1]), lets_wide, tree, stand, lot, thing)
        else:
            refuses(self, InvalidPaper, {'word': fault[0], 'at': fault[1]}, lets_wide, tree, stand, lot, thing)
        return fault

    def wrong(self, word, at, thing, tree=NEAR, stand=BOTH, lot=SWAP):
        self.assertEqual(self.judge(tree, stand, lot, thing), (word, at))

    def test_parameters(self):
        self.assertEqual(parameters(lets_wide), ['tree', 'stand', 'lot', 'thing'])

    def test_examples(self):
        gives(self, 1, lets_wide, NEAR, BOTH, SWAP, GOOD)

    def test_right_ones(self):
        gives(self, 1, lets_wide, NEAR, BOTH, SWAP, ('widened', ('b',), (('a', 'b'),), (('a', 'b'), ('b', 'a'))))
        gives(self, 0, lets_wide, TREE, STAND, LOT, PLAIN)
        gives(self, 0, lets_wide, TREE, STAND, (), ('widened', (), (), ()))
        orders = (('a', 'b'), ('b', 'a')), (('b', 'a'), ('a', 'b'))
        for rings in ((('a', 'b'), ('p', 'q')), (('p', 'q'), ('a', 'b')), (('a', 'q'), ('b', 'p')), (('b', 'p'), ('a', 'q'))):
            gives(self, 2, lets_wide, DEEP, FULL, SWAP, ('widened', ('a', 'p'), rings, orders[1]))
            gives(self, 2, lets_wide, DEEP, FULL, SWAP, ('widened', ('b', 'q'), rings, orders[0]))

    def test_shape(self):
        for thing in [*ODD, Other(), (), ('widened',), GOOD[:3], (*GOOD, ()), list(GOOD), ('wide', *GOOD[1:]),
                      ('', *GOOD[1:]), (('widened',), *GOOD[1:]), (['widened'], *GOOD[1:]), (True, *GOOD[1:]),
                      ('widened', ['a'], *GOOD[2:]), ('widened', ('a',), [('a', 'b')], GOOD[3]),
                      (*GOOD[:3], list(GOOD[3])), ('widened', 'a', *GOOD[2:]), ('widened', None, (), ()),
                      ('widened', (), None, ()), ('widened', (), (), None), ('widened', (), (), 'a'), GOOD[::-1],
                      # what is wrong within comes behind the shape
                      ('widened', ('x',), (None,), [None])]:
            self.wrong('shape', -1, thing)

    def test_folders(self):
        for folders in (('x',), ('b', 'a'), ('a', 'a'), (None,), (True,), ('',), (['a'],), (('a',),), ('a', 'b', 'c'),
                        ('a', None), (1,), ('A',), ((((),),),)):
            self.wrong('folders', -1, ('widened', folders, *GOOD[2:]))
            # it comes ahead of rings and moves
            self.wrong('folders', -1, ('widened', folders, (None,), (None,)))

    def test_ring(self):
        for ring in [*ODD, Other(), ('b', 'a'), ['a', 'b'], ('a',), ('a', 'b', 'x'), ('a', 'a'), (), (('a', 'b'),)]:
            if ring != ('a', 'b'):
                self.wrong('ring', 0, (*GOOD[:2], (ring,), GOOD[3]))
                self.wrong('ring', 0, (*GOOD[:2], (ring, ('a', 'b')), (None,)))
                self.wrong('ring', 1, (*GOOD[:2], (('a', 'b'), ring), GOOD[3]))
                self.wrong('ring', 0, ('widened', (), (ring, ring), ()))
        # with one place more in a there is no ring, but stand and lot are asked
        self.wrong('ring', 0, ('widened', ('a',), (('a', 'b'),), SWAP), (('a', '', 2), ('b', '', 1)))

    def test_common(self):
        ring = ('a', 'b')
        self.wrong('common', 1, ('widened', ('a', 'b'), (ring, ring), GOOD[3]))
        self.wrong('common', 1, ('widened', ('a',), (ring, ring, None), (None,)))
        self.wrong('common', 2, ('widened', ('a', 'p'), (('a', 'b'), ('p', 'q'), ('a', 'q')), ()), DEEP, FULL)
        self.wrong('common', 1, ('widened', ('a', 'p'), (('a', 'b'), ('a', 'q')), ()), DEEP, FULL)
        self.wrong('common', 1, ('widened', ('a', 'p'), (('a', 'b'), ('b', 'p')), ()), DEEP, FULL)
        self.wrong('ring', 1, ('widened', ('a', 'p'), (('a', 'b'), ('a', 'p'), ('a', 'b')), ()), DEEP, FULL)
        self.wrong('common', 1, ('widened', (), (('a', 'b', 'c', 'd'), ('c', 'd')), ()), FOUR, (1,) * 4, TWICE)
        # around one another is not in common
        self.wrong('lot', -1, ('widened', ('a', 'p'), (('a', 'b'), ('p', 'q')), ()), DEEP, FULL)

    def test_many(self):
        for folders, rings in ((('a',), ()), ((), (('a', 'b'),)), (('a', 'b'), (('a', 'b'),))):
            self.wrong('many', -1, ('widened', folders, rings, GOOD[3]))
            # it comes ahead of the moves
            self.wrong('many', -1, ('widened', folders, rings, (None,)))
        self.wrong('many', -1, ('widened', ('c',), (), PLAIN[3]), TREE, STAND, LOT)

    def test_move(self):
        for move in [*ODD, Other(), ('a', 'x'), ('', 'a'), ('b', ''), ['b', 'a'], ('b', 'a', 'b')]:
            if move not in SWAP:
                for k in range(3):
                    self.wrong('move', k, (*GOOD[:3], (*GOOD[3][:k], move, *GOOD[3][k:])))
        self.wrong('move', 2, (*GOOD[:3], (*GOOD[3], ('a', 'b'))))
        self.wrong('move', 1, (*GOOD[:3], (('b', 'a'), ('b', 'a'))))
        # b has no place, as a was widened
        self.wrong('move', 0, (*GOOD[:3], SWAP))
        self.wrong('move', 0, ('widened', ('b', 'p'), (('a', 'b'), ('p', 'q')), SWAP), DEEP, FULL)
        self.wrong('move', 0, ('widened', ('b', 'p'), (('a', 'b'), ('p', 'q')), SWAP[::-1]), DEEP, FULL)

    def test_lot(self):
        for k in range(2):
            self.wrong('lot', -1, (*GOOD[:3], GOOD[3][:k]))
        self.wrong('lot', -1, ('widened', (), (), PLAIN[3][:2]), TREE, STAND, LOT)

    def test_ends_that_do_not_fit(self):
        # without any folder widened no order goes
        self.wrong('move', 0, ('widened', (), (), (('', 'a'),)), lot=(('', 'a'),))
        self.wrong('lot', -1, ('widened', (), (), ()), lot=(('', 'a'),))
        self.wrong('many', -1, ('widened', ('a',), (), (('', 'a'),)), lot=(('', 'a'),))
        # a place more in a folder of a ring makes the end fit, and all moves can be made
        tree, stand, lot = (('a', '', 2), ('b', '', 1)), (2, 1), (('a', 'b'), ('a', 'b'), ('b', 'a'))
        self.assertEqual(plain.crowded(tree, plain.at_end(tree, stand, lot)), ('b',))
        gives(self, 1, lets_wide, tree, stand, lot, ('widened', ('b',), (('a', 'b'),), (('a', 'b'), ('b', 'a'), ('a', 'b'))))
        self.wrong('move', 2, ('widened', ('a',), (('a', 'b'),), (('b', 'a'), ('a', 'b'), ('a', 'b'))), tree, stand, lot)
        seen = set()
        pick = random.Random(223)
        for tree, stand, lot in small_cases(224, 400):
            if plain.crowded(tree, plain.at_end(tree, stand, lot)):
                names = [row[0] for row in tree]
                rings = plain.all_rings(tree, stand, lot)
                for folders in [(), *[(name,) for name in names]]:
                    order = plain.some_order(plain.wider(tree, folders), stand, lot)
                    order = tuple(pick.sample(lot, len(lot))) if order is None else order
                    fault = self.judge(tree, stand, lot, ('widened', folders, tuple(rings[:len(folders)]), order))
                    seen.add(fault and fault[0])
        self.assertLessEqual({'move', 'many', None}, seen)

    def test_papers_that_are_spoilt(self):
        pick = random.Random(225)
        odd = [*ODD, 'widened', 'p', 'q', ('a', 'b'), ('p', 'q'), (('a', 'b'),) * 2, SWAP, ('a', 'p')]
        met = set()
        cases = [(NEAR, BOTH, SWAP), (DEEP, FULL, SWAP), (STUCK, STAND, LOT), (NEST, (1, 1, 1, 1), CROSS),
                 *small_cases(226, 150, plain.some_fitting, plain.SIX[:5], 5),
                 *small_cases(227, 100, plain.some_stuck, plain.SIX[:5], 5)]
        for tree, stand, lot in cases:
            paper = wide_paper(tree, stand, lot)
            for _ in range(40 if len(tree) < 5 else 15):
                spoilt = plain.broken(pick, paper, odd)
                met.add(self.judge(tree, stand, lot, spoilt))
                met.add(self.judge(tree, stand, lot, plain.broken(pick, spoilt, odd)))
        words = {fault and fault[0] for fault in met}
        self.assertEqual(words, {'shape', 'folders', 'ring', 'common', 'many', 'move', 'lot', None})

    def test_each_value_in_each_place(self):
        for thing in [*ODD, Other()]:
            for paper in ((thing, *GOOD[1:]), ('widened', thing, *GOOD[2:]), (*GOOD[:2], thing, GOOD[3]),
                          (*GOOD[:3], thing), (thing,) * 4, ('widened', (thing,), *GOOD[2:]),
                          ('widened', ('a', thing), *GOOD[2:]), (*GOOD[:2], (thing,), GOOD[3]),
                          (*GOOD[:2], ((thing, 'b'),), GOOD[3]), (*GOOD[:2], (('a', thing),), GOOD[3]),
                          (*GOOD[:3], (thing, ('a', 'b'))), (*GOOD[:3], (('b', 'a'), thing)),
                          (*GOOD[:3], ((thing, 'a'), ('a', 'b'))), (*GOOD[:3], (('b', thing), ('a', 'b')))):
                self.judge(NEAR, BOTH, SWAP, paper)

    def test_what_is_accepted_is_the_fewest(self):
        """Each set of folders, with the most rings apart and an order, if there is one."""
        accepted = 0
        for tree, stand, lot in small_cases(228, 120, plain.some_stuck, plain.SIX[:4], 6):
            rings = wide_paper(tree, stand, lot)[2]
            names = [row[0] for row in tree]
            for code in range(1 << len(names)):
                folders = tuple(name for k, name in enumerate(names) if code >> k & 1)
                order = plain.some_order(plain.wider(tree, folders), stand, lot)
                paper = ('widened', folders, rings[:len(folders)], lot if order is None else order)
                if self.judge(tree, stand, lot, paper) is None:
                    accepted += bool(folders)
                    self.assertEqual(len(folders), len(fewest_widened(tree, stand, lot)))
        self.assertGreater(accepted, 20)

    def test_arguments(self):
        takes_arguments(self, lets_wide, TREE, STAND, LOT, PLAIN)


if __name__ == '__main__':
    unittest.main()
