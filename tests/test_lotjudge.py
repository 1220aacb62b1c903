"""Points 2, 6, 7, 10, 37 and 38: lets_all."""

import itertools
import random
import unittest

import plain
from support import (BIG, BOTH, DEEP, FULL, LATE, LOT, NEAR, ODD, STAND, STUCK, SWAP, TREE, Other, gives, parameters,
                     refuses, small_cases, takes_arguments)

from roomrings.errors import InvalidPaper
from roomrings.goers import all_go
from roomrings.lotjudge import lets_all
from roomrings.lotpapers import lot_paper

GOOD = ('order', (('c', 'a'), ('b', 'c'), ('a', 'b')))


def paper_fault(tree, stand, lot, thing):
    """What is wrong first in a value as a paper, by the words of the document; None for a paper."""
    if thing.__class__ is not tuple or len(thing) != 2:
        return 'shape', -1
    word, shown = thing
    if plain.is_word(word, 'order') and shown.__class__ is tuple:
        return plain.order_fault(tree, stand, lot, shown)
    if plain.is_word(word, 'ring'):
        good = plain.is_set_of_names(tree, shown) and plain.is_ring(tree, stand, lot, shown)
        return None if good else ('ring', -1)
    if plain.is_word(word, 'end'):
        crowded = plain.crowded(tree, plain.at_end(tree, stand, lot))
        return None if shown.__class__ is str and shown in crowded else ('end', -1)
    return 'shape', -1


class LotJudge(unittest.TestCase):

    def judge(self, tree, stand, lot, thing):
        """Checks what is said of a value; returns the fault."""
        fault = paper_fault(tree, stand, lot, thing)
        if fault is None:
            gives(self, thing[0] == 'order', lets_all, tree, stand, lot, thing)
        else:
            refuses(self, InvalidPaper, {'word': fault[0], 'at': fault[1]}, lets_all, tree, stand, lot, thing)
        return fault

    def wrong(self, word, at, thing, tree=TREE, stand=STAND, lot=LOT):
        self.assertEqual(paper_fault(tree, stand, lot, thing), (word, at))
        refuses(self, InvalidPaper, {'word': word, 'at': at}, lets_all, tree, stand, lot, thing)

    def test_parameters(self):
        self.assertEqual(parameters(lets_all), ['tree', 'stand', 'lot', 'thing'])

    def test_examples(self):
        self.assertEqual([lets_all(TREE, STAND, LOT, GOOD), lets_all(DEEP, FULL, SWAP, ('ring', ('a', 'q')))],
                         [True, False])
        self.wrong('move', 1, ('order', (('c', 'a'), ('a', 'b'), ('b', 'c'))))
        self.wrong('end', -1, ('end', 'a'))

    def test_right_ones(self):
        gives(self, True, lets_all, TREE, STAND, LOT, GOOD)
        gives(self, True, lets_all, TREE, STAND, (), ('order', ()))
        gives(self, False, lets_all, STUCK, STAND, LOT, ('ring', ('c', 'top')))
        gives(self, False, lets_all, NEAR, BOTH, LATE, ('end', 'a'))
        # a ring bars the lot, whether the end fits or not
        tree, lot = (('a', '', 1), ('b', '', 1), ('c', '', 0)), (('', 'c'), ('a', 'b'), ('b', 'a'))
        gives(self, False, lets_all, tree, (1, 1, 0), lot, ('ring', ('a', 'b')))
        gives(self, False, lets_all, tree, (1, 1, 0), lot, ('end', 'c'))
        for ring in (('a', 'b'), ('a', 'q'), ('b', 'p'), ('p', 'q')):
            gives(self, False, lets_all, DEEP, FULL, SWAP, ('ring', ring))

    def test_shape(self):
        for thing in [*ODD, Other(), (), ('order',), ('order', (), ()), ['order', ()], ('orders', ()), ('', ()),
                      (('order',), ()), (['order'], ()), (None, ()), (True, ()), ('ring',), ('end',), ('ring', (), ()),
                      ('end', 'a', 'a'), 'order', ('order', list(GOOD[1])), ('order', None), ('order', 'ca'),
                      ('order', 1), ('Order', ()), ('shape', -1)]:
            self.wrong('shape', -1, thing)

    def test_move(self):
        for thing in [*ODD, ('a', 'x'), ('', 'a'), ('a', 'c'), ['c', 'a']]:
            if thing not in LOT:
                for k in range(4):
                    self.wrong('move', k, ('order', (*GOOD[1][:k], thing, *GOOD[1][k:])))
        # it is no move of the lot that is left, though one of the lot
        self.wrong('move', 1, ('order', (('c', 'a'), ('c', 'a'))))
        self.wrong('move', 3, ('order', (*GOOD[1], ('c', 'a'))))
        # it cannot go
        self.wrong('move', 0, ('order', (('a', 'b'), ('c', 'a'), ('b', 'c'))))
        self.wrong('move', 0, ('order', (('b', 'c'),)))
        # the first of several
        self.wrong('move', 0, ('order', (None, None)))
        self.wrong('move', 1, ('order', (('c', 'a'), ('a', 'b'), None)))

    def test_lot(self):
        for k in range(3):
            self.wrong('lot', -1, ('order', GOOD[1][:k]))
        twice = (('', 'a'), ('', 'a'))
        tree = (('a', '', 5),)
        self.wrong('lot', -1, ('order', twice[:1]), tree, (0,), twice)
        gives(self, True, lets_all, tree, (0,), twice, ('order', twice))
        self.wrong('move', 2, ('order', (*twice, ('', 'a'))), tree, (0,), twice)

    def test_ring(self):
        for thing in [*ODD, Other(), ('c', 'top', 'x'), ('top', 'c'), ['c', 'top'], ('c', 'c', 'top'), ('b', 'c'),
                      ('c',), ('top',), ('a', 'c', 'top'), (('c', 'top'),), ('c', ('top',)), {'c', 'top'}]:
            self.wrong('ring', -1, ('ring', thing), STUCK)
        self.wrong('ring', -1, ('ring', ('b', 'c')))
        self.wrong('ring', -1, ('ring', ()), NEAR, BOTH, ())

    def test_end(self):
        for thing in [*ODD, Other(), 'b', 'x', ('a',), ['a'], {'a'}]:
            if thing != 'a':
                self.wrong('end', -1, ('end', thing), NEAR, BOTH, LATE)
        self.wrong('end', -1, ('end', 'c'), TREE, STAND, LOT)
        # it is full at the end, but not more
        gives(self, False, lets_all, NEAR, (0, 1), (('', 'a'), ('', 'a')), ('end', 'a'))
        self.wrong('end', -1, ('end', 'b'), NEAR, (0, 1), (('', 'a'), ('', 'a')))

    def test_all_orders_as_papers(self):
        for tree, stand, lot in small_cases(90, 300, plain.some_case, plain.SIX[:4], 4):
            for order in set(itertools.permutations(lot)):
                self.judge(tree, stand, lot, ('order', order))
                self.judge(tree, stand, lot, ('order', order[1:]))
                self.judge(tree, stand, lot, ('order', (*order, *order[:1])))

    def test_all_rings_and_ends_as_papers(self):
        for tree, stand, lot in small_cases(91, 300, plain.some_case, plain.SIX[:5]):
            names = [row[0] for row in tree]
            for many in range(len(names) + 1):
                for chosen in itertools.combinations(names, many):
                    self.judge(tree, stand, lot, ('ring', chosen))
            for name in ['', *names, 'nobody']:
                self.judge(tree, stand, lot, ('end', name))

    def test_what_lot_paper_tells(self):
        for tree, stand, lot in small_cases(92, 500, plain.some_case, plain.SIX, 8):
            gives(self, all_go(tree, stand, lot), lets_all, tree, stand, lot, lot_paper(tree, stand, lot))

    def test_papers_that_are_spoilt(self):
        pick = random.Random(93)
        odd = [*ODD, 'order', 'ring', 'end', 'q', 'p', ('a', 'q')]
        met = set()
        for tree, stand, lot in small_cases(94, 500, plain.some_case, plain.SIX[:4], 5):
            paper = lot_paper(tree, stand, lot)
            for _ in range(10):
                met.add(self.judge(tree, stand, lot, plain.broken(pick, paper, odd)))
        self.assertLessEqual({('shape', -1), ('move', 0), ('move', 2), ('lot', -1), ('ring', -1), ('end', -1), None},
                             met)

    def test_each_value_in_each_place(self):
        for thing in [*ODD, Other()]:
            for paper in ((thing, GOOD[1]), ('order', thing), ('order', (thing,)), ('order', (('c', thing),)),
                          ('order', ((thing, 'a'),)), ('ring', thing), ('ring', (thing,)), ('ring', ('c', thing)),
                          ('ring', (thing, 'top')), ('end', thing), (thing, thing), ('order', GOOD[1], thing)):
                self.judge(STUCK, STAND, LOT, paper)
                self.judge(TREE, STAND, LOT, paper)

    def test_large(self):
        names = plain.MANY_NAMES[:12]
        tree = tuple((name, '', BIG) for name in names)
        lot = tuple(sorted(list(zip(names, [*names[1:], names[0]])) * 2))
        stand = (BIG - 1,) + (BIG,) * 11
        gives(self, True, lets_all, tree, stand, lot, lot_paper(tree, stand, lot))
        gives(self, False, lets_all, tree, (BIG,) * 12, lot, ('ring', tuple(names)))

    def test_arguments(self):
        takes_arguments(self, lets_all, TREE, STAND, LOT, GOOD)


if __name__ == '__main__':
    unittest.main()
