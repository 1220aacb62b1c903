"""Points 6, 7, 8, 9 (O1), 10, 36, 37 and 38: all_go, an_order, lot_paper."""

import itertools
import random
import unittest

import plain
from support import (BIG, BOTH, DEEP, FULL, LATE, LOT, NEAR, STAND, STUCK, SWAP, TREE, gives,
                     parameters, small_cases, takes_arguments)

from roomrings.goers import all_go, an_order
from roomrings.lotpapers import lot_paper
from roomrings.moving import after_moves
from roomrings.ends import end_counts
from roomrings.rings import greatest_ring

CALLS = [all_go, an_order, lot_paper]


class Goers(unittest.TestCase):

    def check_order(self, tree, stand, lot, order):
        self.assertIs(order.__class__, tuple)
        self.assertEqual(tuple(sorted(order)), lot)
        self.assertIsNone(plain.first_refused(tree, stand, order))

    def check_paper(self, tree, stand, lot, goes):
        paper = lot_paper(tree, stand, lot)
        self.assertIs(paper.__class__, tuple)
        word, shown = paper
        self.assertEqual(word == 'order', goes)
        if word == 'order':
            self.check_order(tree, stand, lot, shown)
        elif word == 'ring':
            self.assertEqual(shown, tuple(sorted(set(shown))))
            self.assertTrue(plain.is_ring(tree, stand, lot, shown))
        else:
            self.assertEqual(word, 'end')
            self.assertIn(shown, plain.crowded(tree, plain.at_end(tree, stand, lot)))
        return word

    def test_parameters(self):
        for call in CALLS:
            self.assertEqual(parameters(call), ['tree', 'stand', 'lot'])

    def test_examples(self):
        self.assertEqual([all_go(TREE, STAND, LOT), an_order(TREE, STAND, LOT), all_go(STUCK, STAND, LOT),
                          an_order(STUCK, STAND, LOT)], [True, (('c', 'a'), ('b', 'c'), ('a', 'b')), False, None])
        self.assertEqual([all_go(NEAR, BOTH, LATE), lot_paper(NEAR, BOTH, LATE), lot_paper(STUCK, STAND, LOT),
                          lot_paper(TREE, STAND, ())],
                         [False, ('end', 'a'), ('ring', ('c', 'top')), ('order', ())])

    def test_no_moves(self):
        gives(self, True, all_go, NEAR, BOTH, ())
        gives(self, (), an_order, NEAR, BOTH, ())
        gives(self, ('order', ()), lot_paper, NEAR, BOTH, ())

    def test_a_ring_bars(self):
        gives(self, False, all_go, NEAR, BOTH, SWAP)
        gives(self, None, an_order, NEAR, BOTH, SWAP)
        gives(self, ('ring', ('a', 'b')), lot_paper, NEAR, BOTH, SWAP)
        for ring in (('a', 'b'), ('a', 'q'), ('b', 'p'), ('p', 'q')):
            self.assertTrue(plain.is_ring(DEEP, FULL, SWAP, ring))
        self.assertEqual(self.check_paper(DEEP, FULL, SWAP, False), 'ring')

    def test_the_end_bars(self):
        self.assertEqual(self.check_paper(NEAR, (1, 0), (('', 'b'), ('a', 'b')), False), 'end')
        self.assertEqual(self.check_paper(STUCK, STAND, (('', 'a'),), False), 'end')

    def test_a_ring_and_the_end_bar(self):
        lot = (('', 'c'), ('a', 'b'), ('b', 'a'))
        tree = (('a', '', 1), ('b', '', 1), ('c', '', 0))
        self.assertIn(self.check_paper(tree, (1, 1, 0), lot, False), ('ring', 'end'))
        gives(self, False, all_go, tree, (1, 1, 0), lot)

    def test_the_wrong_first_move_makes_a_ring(self):
        tree, lot = (('a', '', 1), ('b', '', 1), ('h', '', 2)), (('a', 'h'), ('b', 'h'), ('h', 'b'))
        gives(self, True, all_go, tree, (1, 1, 1), lot)
        self.check_order(tree, (1, 1, 1), lot, an_order(tree, (1, 1, 1), lot))
        tree = (('a', 'p', 1), ('b', 'p', 1), ('p', '', 2), ('q', '', 1))
        lot = (('', 'p'), ('a', 'q'), ('q', 'b'))
        self.check_order(tree, (1, 0, 0, 1), lot, an_order(tree, (1, 0, 0, 1), lot))
        gives(self, True, all_go, tree, (1, 0, 0, 1), lot)

    def test_a_part_that_cannot_be_made(self):
        tree = (('a', '', 2), ('b', '', 1))
        gives(self, False, all_go, tree, (2, 1), SWAP)
        gives(self, True, all_go, tree, (2, 1), (('a', ''), ('a', 'b'), ('b', 'a')))

    def test_against_all_orders_of_small_lots(self):
        words = []
        for tree, stand, lot in small_cases(80, 1500, plain.some_case, plain.SIX[:5], 5):
            goes = any(plain.first_refused(tree, stand, order) is None for order in set(itertools.permutations(lot)))
            gives(self, goes, all_go, tree, stand, lot)
            order = an_order(tree, stand, lot)
            if goes:
                self.check_order(tree, stand, lot, order)
                self.assertEqual(after_moves(tree, stand, order), end_counts(tree, stand, lot))
            else:
                self.assertIsNone(order)
            words.append(self.check_paper(tree, stand, lot, goes))
        self.assertGreater(min(words.count(word) for word in ('order', 'ring', 'end')), 50)

    def test_against_a_search_over_larger_lots(self):
        cases = [*small_cases(81, 300, plain.some_fitting, plain.SIX, 9),
                 *small_cases(83, 150, plain.some_earlier, plain.SIX[:5], 8)]
        for tree, stand, lot in cases:
            found = plain.some_order(tree, stand, lot)
            gives(self, found is not None, all_go, tree, stand, lot)
            gives(self, found is None, lambda *args: greatest_ring(*args) != (), tree, stand, lot)
            if found is not None:
                self.check_order(tree, stand, lot, an_order(tree, stand, lot))
            self.check_paper(tree, stand, lot, found is not None)

    def test_all_lots_of_small_trees(self):
        tree = (('a', 'p', 1), ('b', '', 1), ('p', '', 1))
        for stand in ((1, 1, 0), (0, 1, 1), (0, 0, 1), (0, 1, 0)):
            for many in range(4):
                for lot in itertools.combinations_with_replacement(itertools.permutations(('', 'a', 'b', 'p'), 2), many):
                    if plain.lot_fault(tree, stand, lot) is None:
                        gives(self, plain.some_order(tree, stand, lot) is not None, all_go, tree, stand, lot)

    def test_twenty_four_moves_in_twelve_folders(self):
        names = plain.MANY_NAMES[:12]
        shape = list(zip(names, ['', *names[:1] * 3, '', *names[4:5] * 3, '', *names[8:9] * 3]))
        pick = random.Random(82)
        for free in (0, 1, 2):
            rows = tuple((name, parent, 0) for name, parent in shape)
            stand = (2,) * 12
            tree = tuple((*row[:2], plain.uses(rows, stand, row[0]) + (free if row[1] == '' else 1)) for row in rows)
            targets = pick.sample(names * 2, 24)
            while any(name == target for name, target in zip(names * 2, targets)):
                targets = pick.sample(names * 2, 24)
            lot = tuple(sorted(zip(names * 2, targets)))
            self.assertEqual(len(lot), 24)
            order = an_order(tree, stand, lot)
            self.assertEqual(order is not None, free > 0)
            self.assertEqual(self.check_paper(tree, stand, lot, free > 0), 'order' if free else 'ring')
            if free:
                self.check_order(tree, stand, lot, order)

    def test_one_free_place_for_a_long_round(self):
        names = plain.MANY_NAMES[:12]
        tree = tuple((name, '', BIG) for name in names)
        lot = tuple(sorted(list(zip(names, [*names[1:], names[0]])) * 2))
        for k in range(12):
            stand = tuple(BIG - (place == k) for place in range(12))
            self.check_order(tree, stand, lot, an_order(tree, stand, lot))
        gives(self, None, an_order, tree, (BIG,) * 12, lot)

    def test_arguments(self):
        for call in CALLS:
            takes_arguments(self, call, TREE, STAND, LOT)


if __name__ == '__main__':
    unittest.main()
