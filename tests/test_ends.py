"""Points 6, 10, 25 and 26: end_counts, fits, misfits."""

import itertools
import unittest

import plain
from support import BIG, LOT, STAND, TREE, gives, parameters, small_cases, takes_arguments

from roomrings.crossings import entered, entering, leaving, left_by
from roomrings.ends import end_counts, fits, misfits
from roomrings.moving import after_moves

ENDS = [end_counts, fits, misfits]
MORE = (('', 'a'), ('', 'a'), ('b', 'c'))


class Ends(unittest.TestCase):

    def test_parameters(self):
        for call in ENDS:
            self.assertEqual(parameters(call), ['tree', 'stand', 'lot'])

    def test_examples(self):
        self.assertEqual([end_counts(TREE, STAND, MORE), fits(TREE, STAND, MORE), misfits(TREE, STAND, MORE)],
                         [(3, 0, 2, 0), False, ('a', 'c')])

    def test_ordinary(self):
        gives(self, STAND, end_counts, TREE, STAND, LOT)
        gives(self, True, fits, TREE, STAND, LOT)
        gives(self, (), misfits, TREE, STAND, LOT)
        gives(self, STAND, end_counts, TREE, STAND, ())
        gives(self, True, fits, TREE, STAND, ())
        gives(self, (), misfits, TREE, STAND, ())

    def test_folders_around_are_too_full(self):
        tree = (('a', 'b', 5), ('b', 'c', 5), ('c', '', 2), ('d', 'e', 0), ('e', '', 4))
        gives(self, ('c',), misfits, tree, (0, 0, 1, 0, 4), (('', 'a'), ('e', 'b')))
        gives(self, False, fits, tree, (0, 0, 1, 0, 4), (('', 'a'), ('e', 'b')))
        gives(self, ('d',), misfits, tree, (0, 0, 1, 0, 4), (('e', 'd'),))
        gives(self, (0, 0, 1, 1, 3), end_counts, tree, (0, 0, 1, 0, 4), (('e', 'd'),))

    def test_against_the_moves_made_one_by_one(self):
        ends = set()
        for tree, stand, lot in small_cases(52, 1500, plain.some_case, plain.SIX, 8):
            end = plain.at_end(tree, stand, lot)
            crowded = plain.crowded(tree, end)
            gives(self, end, end_counts, tree, stand, lot)
            gives(self, crowded == (), fits, tree, stand, lot)
            gives(self, crowded, misfits, tree, stand, lot)
            self.assertEqual(crowded == (), plain.stand_fault(tree, end) is None)
            ends.add(len(crowded))
        self.assertLessEqual({0, 1, 2, 3}, ends)

    def test_all_lots_of_a_small_stand(self):
        tree, stand = (('a', 'b', 1), ('b', '', 2), ('c', '', 1)), (1, 1, 1)
        for moves in itertools.combinations_with_replacement(itertools.permutations(('', 'a', 'b', 'c'), 2), 3):
            if plain.lot_fault(tree, stand, moves) is None:
                gives(self, plain.crowded(tree, plain.at_end(tree, stand, moves)), misfits, tree, stand, moves)

    def test_uses_at_the_end(self):
        for tree, stand, lot in small_cases(53, 300):
            end = end_counts(tree, stand, lot)
            for name, _, _ in tree:
                change = entering(tree, lot, name) - leaving(tree, lot, name)
                self.assertEqual(plain.uses(tree, end, name), plain.uses(tree, stand, name) + change)
            for move in lot:
                self.assertEqual(entered(tree, move[::-1]), left_by(tree, move))
                self.assertEqual(set(entered(tree, move)) & set(left_by(tree, move)), set())

    def test_an_order_that_goes_leads_to_the_end(self):
        for tree, stand, lot in small_cases(54, 300):
            order = plain.some_order(tree, stand, lot)
            if order is not None:
                self.assertEqual(after_moves(tree, stand, order), end_counts(tree, stand, lot))
                self.assertTrue(fits(tree, stand, lot))

    def test_large(self):
        tree, stand = (('a', '', BIG), ('b', '', BIG)), (BIG, BIG - 12)
        lot = (('', 'a'),) * 12 + (('a', 'b'),) * 12
        gives(self, (BIG, BIG), end_counts, tree, stand, lot)
        gives(self, True, fits, tree, stand, lot)
        gives(self, ('a',), misfits, tree, stand, (('', 'a'),) * 13 + lot[12:])

    def test_arguments(self):
        for call in ENDS:
            takes_arguments(self, call, TREE, STAND, LOT)


if __name__ == '__main__':
    unittest.main()
