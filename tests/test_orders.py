"""Points 10, 30, 31 and 32: class Order."""

import itertools
import random
import unittest

import plain
from support import BIG, LOT, ODD, STAND, TREE, Other, gives, parameters, refuses, refuses_each, small_cases

from roomrings.ends import end_counts
from roomrings.errors import NotUsable
from roomrings.moving import after_moves
from roomrings.orders import Order

GOOD = (('c', 'a'), ('b', 'c'), ('a', 'b'))


class Orders(unittest.TestCase):

    def setUp(self):
        self.one = Order(TREE, STAND, *GOOD)
        self.late = Order(TREE, STAND, ('c', 'a'), ('a', 'b'), ('b', 'c'))

    def tearDown(self):
        self.assertEqual([self.one.tree, self.one.start, self.one.moves, self.one.stand, self.one.heights],
                         [TREE, STAND, GOOD, (1, 1, 1, 0), (2, 1, 1, 3)])

    def test_interface(self):
        self.assertEqual(parameters(Order), ['tree', 'stand', '*moves'])
        self.assertEqual(parameters(Order.along), ['tree', 'stand', 'moves'])
        self.assertEqual(parameters(self.one.stand_after), ['k'])
        self.assertEqual(parameters(self.one.exchanged), ['k'])
        for name in ('__init__', 'along', 'stand_after', 'exchanged', '__len__', '__eq__', '__iter__'):
            self.assertIn(name, vars(Order))
        for name in ('tree', 'start', 'moves', 'stand', 'heights', 'refused'):
            self.assertIsInstance(vars(Order)[name], property)
        self.assertIsInstance(vars(Order)['along'], classmethod)

    def test_examples(self):
        one = self.one
        self.assertEqual([one.refused, one.stand, one.heights, one.stand_after(2),
                          list(one) == list(one.exchanged(0).exchanged(0))],
                         [None, (1, 1, 1, 0), (2, 1, 1, 3), (2, 0, 1, 0), True])
        late = one.exchanged(1)
        self.assertEqual([late.moves, late.refused, late.stand, late.heights, len(late),
                          late == Order.along(TREE, STAND, late.moves)],
                         [(('c', 'a'), ('a', 'b'), ('b', 'c')), 1, (2, 1, 0, 0), (2, 1, 1, 3), 3, True])
        refuses(self, NotUsable, {'word': 'moves', 'at': -1}, Order, TREE, STAND, ('c', 'a'), ('c', 'b'))

    def test_without_moves(self):
        for one in (Order(TREE, STAND), Order.along(TREE, STAND, ()), Order(stand=STAND, tree=TREE)):
            self.assertEqual([one.tree, one.start, one.moves, one.stand, one.heights, one.refused],
                             [TREE, STAND, (), STAND, (1, 1, 1, 2), None])
            self.assertEqual([len(one), list(one), one.stand_after(0)], [0, [], STAND])
            self.assertTrue(one == Order(TREE, STAND))
            refuses(self, NotUsable, {'word': 'k', 'at': -1}, one.stand_after, 1)
            refuses(self, NotUsable, {'word': 'k', 'at': -1}, one.exchanged, 0)

    def test_the_first_cannot_go(self):
        one = Order(TREE, STAND, ('a', 'b'), ('c', 'a'))
        self.assertEqual([one.refused, one.stand, one.heights, len(one), list(one)],
                         [0, STAND, (1, 1, 1, 2), 2, [('a', 'b'), ('c', 'a')]])
        self.assertEqual(one.stand_after(0), STAND)
        refuses(self, NotUsable, {'word': 'k', 'at': -1}, one.stand_after, 1)
        self.assertEqual(one.exchanged(0).refused, 1)

    def test_later_moves_are_not_made(self):
        # the last one could go by itself
        one = Order(TREE, STAND, ('a', 'b'), ('c', ''))
        self.assertEqual([one.refused, one.stand], [0, STAND])

    def test_against_the_plain_reading(self):
        pick = random.Random(60)
        met = {}
        for tree, stand, lot in small_cases(61, 500, plain.some_case, plain.SIX[:5], 7):
            moves = tuple(pick.sample(lot, len(lot)))
            one = Order(tree, stand, *moves)
            refused = plain.first_refused(tree, stand, moves)
            made = len(moves) if refused is None else refused
            stands = [plain.at_end(tree, stand, moves[:k]) for k in range(made + 1)]
            heights = tuple(max(plain.uses(tree, now, row[0]) for now in stands) for row in tree)
            self.assertEqual([one.tree, one.start, one.moves, one.stand, one.heights, one.refused, len(one), list(one)],
                             [tree, stand, moves, stands[-1], heights, refused, len(moves), list(moves)])
            for name in ('tree', 'start', 'moves', 'stand', 'heights'):
                self.assertIs(getattr(one, name).__class__, tuple)
            for k, now in enumerate(stands):
                self.assertEqual(one.stand_after(k), now)
                self.assertEqual(one.stand_after(k=k), now)
            for k in (made + 1, made + 2, len(moves) + 1, BIG):
                refuses(self, NotUsable, {'word': 'k', 'at': -1}, one.stand_after, k)
            met[refused is None] = met.get(refused is None, 0) + 1
        self.assertGreater(min(met.values()), 50)

    def test_consequences(self):
        for tree, stand, lot in small_cases(62, 200, plain.some_case, plain.SIX[:4], 4):
            for moves in set(itertools.permutations(lot)):
                one = Order(tree, stand, *moves)
                if one.refused is None:
                    self.assertEqual(one.stand, end_counts(tree, stand, lot))
                    self.assertEqual(one.stand, after_moves(tree, stand, moves))
                else:
                    refuses(self, NotUsable, {'word': 'moves', 'at': one.refused}, after_moves, tree, stand, moves)
                for row, height in zip(tree, one.heights):
                    self.assertLessEqual(height, row[2])
                    self.assertGreaterEqual(height, plain.uses(tree, stand, row[0]))
                    self.assertGreaterEqual(height, plain.uses(tree, one.stand, row[0]))
                narrow = tuple((*row[:2], height) for row, height in zip(tree, one.heights))
                other = Order(narrow, stand, *moves)
                self.assertEqual([other.refused, other.stand, other.heights], [one.refused, one.stand, one.heights])

    def test_exchanged(self):
        self.assertEqual(self.one.exchanged(0).moves, (('b', 'c'), ('c', 'a'), ('a', 'b')))
        self.assertEqual(self.one.exchanged(k=1).moves, (('c', 'a'), ('a', 'b'), ('b', 'c')))
        self.assertIs(self.one.exchanged(0).__class__, Order)
        self.assertEqual([self.late.exchanged(1).refused, self.late.exchanged(1) == self.one], [None, True])
        self.assertEqual([self.one.exchanged(0).tree, self.one.exchanged(0).start], [TREE, STAND])
        for moves in itertools.permutations((('', 'a'), ('', 'a'), ('a', ''), ('b', 'top'))):
            one = Order(TREE, STAND, *moves)
            for k in range(3):
                turned = [*moves[:k], moves[k + 1], moves[k], *moves[k + 2:]]
                self.assertEqual(list(one.exchanged(k)), turned)
                self.assertEqual(one.exchanged(k).start, STAND)

    def test_exchanged_equal_moves(self):
        one = Order(TREE, STAND, ('', 'top'), ('', 'top'))
        self.assertTrue(one.exchanged(0) == one)

    def test_k_of_every_kind(self):
        for thing in [*ODD, Other(), -1, 3, 4, -BIG]:
            is_number = plain.is_plain_number(thing)
            if is_number and thing <= 3:
                self.assertEqual(self.one.stand_after(thing), plain.at_end(TREE, STAND, GOOD[:thing]))
            else:
                refuses(self, NotUsable, {'word': 'k', 'at': -1}, self.one.stand_after, thing)
            if is_number and thing <= 1:
                self.assertEqual(self.one.exchanged(thing).moves[thing], GOOD[thing + 1])
            else:
                refuses(self, NotUsable, {'word': 'k', 'at': -1}, self.one.exchanged, thing)

    def test_exchanged_where_moves_are_refused(self):
        self.assertEqual(self.late.refused, 1)
        self.assertEqual(self.late.exchanged(1).moves, GOOD)
        refuses(self, NotUsable, {'word': 'k', 'at': -1}, self.late.stand_after, 2)
        self.assertEqual(self.late.stand_after(1), (2, 1, 0, 0))

    def test_equal(self):
        self.assertTrue(self.one == Order(TREE, STAND, *GOOD))
        self.assertFalse(self.one != Order.along(TREE, STAND, GOOD))
        wide = (('a', 'top', 2), ('b', 'top', 1), ('c', '', 2), ('top', '', 3))
        for other in (self.late, Order(TREE, STAND, *GOOD[:2]), Order(wide, STAND, *GOOD),
                      Order(TREE, (2, 1, 1, 0), *GOOD), Order(TREE, STAND)):
            self.assertFalse(self.one == other)
            self.assertTrue(self.one != other)
        for thing in [*ODD, Other(), object(), Order, GOOD, list(GOOD)]:
            self.assertIs(self.one == thing, False)
            self.assertIs(self.one != thing, True)

    def test_iteration(self):
        self.assertEqual([list(self.one), tuple(self.one), sorted(self.one)], [list(GOOD), GOOD, sorted(GOOD)])
        self.assertEqual([move for move in self.one for _ in self.one], [move for move in GOOD for _ in range(3)])
        self.assertIn(('b', 'c'), self.one)

    def test_never_changes(self):
        for name in ('tree', 'start', 'moves', 'stand', 'heights', 'refused'):
            with self.assertRaises(AttributeError):
                setattr(self.one, name, ())
        self.one.exchanged(0)
        self.one.stand_after(1)
        stand = self.one.stand
        self.assertEqual([stand, self.one.stand], [(1, 1, 1, 0)] * 2)

    def test_moves_that_are_none(self):
        for thing in [*ODD, Other(), ('a', 'x'), ('x', ''), self.one]:
            if not plain.is_plain_move(TREE, thing):
                for k in range(4):
                    moves = (*GOOD[:k], thing, *GOOD[k:])
                    refuses(self, NotUsable, {'word': 'moves', 'at': -1}, Order, TREE, STAND, *moves)
                    refuses(self, NotUsable, {'word': 'moves', 'at': -1}, Order.along, TREE, STAND, moves)
                refuses(self, NotUsable, {'word': 'moves', 'at': -1}, Order, TREE, STAND, thing, None, thing)

    def test_more_moves_than_files(self):
        for k, move in enumerate(GOOD):
            moves = (*GOOD, move)
            refuses(self, NotUsable, {'word': 'moves', 'at': -1}, Order, TREE, STAND, *moves)
            refuses(self, NotUsable, {'word': 'moves', 'at': -1}, Order.along, TREE, STAND, moves)
        # a file that would come in on the way is not there at the start
        refuses(self, NotUsable, {'word': 'moves', 'at': -1}, Order, TREE, STAND, ('', 'top'), ('top', ''))

    def test_along_takes_tuples(self):
        for thing in [*ODD, Other(), list(GOOD), self.one]:
            if not isinstance(thing, tuple):
                refuses(self, NotUsable, {'word': 'moves', 'at': -1}, Order.along, TREE, STAND, thing)
        self.assertTrue(Order.along(moves=GOOD, stand=STAND, tree=TREE) == self.one)

    def test_wrong_tree_and_stand(self):
        refuses_each(self, Order.along, TREE, STAND, GOOD)
        for thing in ODD:
            if plain.tree_fault(thing):
                refuses(self, NotUsable, {'word': 'tree', 'at': -1}, Order, thing, STAND, *GOOD)
                refuses(self, NotUsable, {'word': 'tree', 'at': -1}, Order, thing, None, None)
            if plain.stand_fault(TREE, thing):
                refuses(self, NotUsable, {'word': 'stand', 'at': -1}, Order, TREE, thing, *GOOD)
                refuses(self, NotUsable, {'word': 'stand', 'at': -1}, Order, TREE, thing, None)

    def test_large(self):
        tree = (('a', '', BIG), ('b', 'a', BIG))
        one = Order(tree, (BIG - 1, 0), *[('a', 'b')] * 12, *[('', 'b')] * 2)
        self.assertEqual([one.refused, one.stand, one.heights], [13, (BIG - 13, 13), (BIG, 13)])
        gives(self, (BIG - 13, 12), one.stand_after, 12)


if __name__ == '__main__':
    unittest.main()
