"""Points 2, 3, 6, 7, 9 (O6), 10, 41, 42 and 43: lets_bulks, bulks_of, all_bulks_go, bulks_ring."""

import itertools
import random
import unittest

import plain
from support import (BIG, BOTH, LATE, LOT, NEAR, ODD, STAND, SWAP, TREE, Other, gives, parameters, refuses,
                     small_cases, takes_arguments)

from roomrings.bulkchecker import lets_bulks
from roomrings.bulks import all_bulks_go, bulks_of, bulks_ring
from roomrings.errors import InvalidPaper, NotUsable
from roomrings.goers import all_go
from roomrings.rings import greatest_ring

MANY, HUGE = (('a', '', 10 ** 30), ('b', '', 10 ** 30)), (('a', 'b', 10 ** 29), ('b', 'a', 10 ** 29))
HEAPS = (10 ** 30, 10 ** 30)
BULKS = (('a', 'b', 1), ('b', 'c', 1), ('c', 'a', 1))


def bulks_fault(tree, stand, thing):
    """What is wrong first in a value as bulks, by the words of the document; None for bulks."""
    if thing.__class__ is not tuple:
        return 'shape', -1
    for k, bulk in enumerate(thing):
        good = (bulk.__class__ is tuple and len(bulk) == 3 and plain.is_plain_move(tree, bulk[:2])
                and plain.is_plain_number(bulk[2]) and bulk[2] != 0)
        if not good or (k and not thing[k - 1][:2] < bulk[:2]):
            return 'bulk', k
    for (name, _, _), many in zip(tree, stand):
        if sum(times for source, _, times in thing if source == name) > many:
            return 'files', name
    return None


def lot_of(bulks):
    return tuple((source, target) for source, target, times in bulks for _ in range(times))


class Bulks(unittest.TestCase):

    def judge(self, tree, stand, thing):
        fault = bulks_fault(tree, stand, thing)
        if fault is None:
            gives(self, sum(bulk[2] for bulk in thing), lets_bulks, tree, stand, thing)
        else:
            refuses(self, InvalidPaper, {'word': fault[0], 'at': fault[1]}, lets_bulks, tree, stand, thing)
            for call in (all_bulks_go, bulks_ring):
                refuses(self, NotUsable, {'word': 'bulks', 'at': -1}, call, tree, stand, thing)
        return fault

    def wrong(self, word, at, thing, tree=TREE, stand=STAND):
        self.assertEqual(self.judge(tree, stand, thing), (word, at))

    def test_parameters(self):
        self.assertEqual(parameters(lets_bulks), ['tree', 'stand', 'thing'])
        self.assertEqual(parameters(bulks_of), ['lot'])
        for call in (all_bulks_go, bulks_ring):
            self.assertEqual(parameters(call), ['tree', 'stand', 'bulks'])

    def test_examples(self):
        self.assertEqual([lets_bulks(MANY, HEAPS, HUGE), all_bulks_go(MANY, HEAPS, HUGE),
                          bulks_ring(MANY, HEAPS, HUGE)], [200000000000000000000000000000, False, ('a', 'b')])
        self.assertEqual([all_bulks_go(MANY, (10 ** 30, 10 ** 30 - 1), HUGE), bulks_of(SWAP + SWAP[1:]),
                          all_bulks_go(NEAR, BOTH, bulks_of(LATE))], [True, (('a', 'b', 1), ('b', 'a', 2)), False])
        refuses(self, InvalidPaper, {'word': 'files', 'at': 'b'}, lets_bulks, MANY, (5, 3),
                (('a', 'b', 5), ('b', '', 4)))

    def test_none(self):
        gives(self, 0, lets_bulks, TREE, STAND, ())
        gives(self, True, all_bulks_go, TREE, STAND, ())
        gives(self, (), bulks_ring, TREE, STAND, ())
        gives(self, (), bulks_of, ())

    def test_shape(self):
        for thing in [*ODD, Other(), list(BULKS), BULKS[0][0], {}]:
            if thing.__class__ is not tuple:
                self.wrong('shape', -1, thing)

    def test_bulk(self):
        for thing in [*ODD, Other(), ('a', 'b', 0), ('a', 'b', -1), ('a', 'b', True), ('a', 'a', 1), ('a', 'x', 1),
                      ('x', 'a', 1), ('a', 'b'), ['a', 'b', 1], ('a', 'b', 1, 1), ('a', 'b', '1'), ('', '', 1),
                      (('a', 'b'), 1), ('a', 'b', None), ('a', 'b', (1,))]:
            if bulks_fault(TREE, (BIG, 0, 0, 0), (thing,)) in (None, ('files', 'a')):
                continue
            for k in range(4):
                self.wrong('bulk', k, (*BULKS[:k], thing, *BULKS[k:]))
            self.wrong('bulk', 0, (thing, thing))

    def test_each_value_in_each_place(self):
        for thing in [*ODD, Other()]:
            for bulks in ((thing,), ((thing, 'b', 1),), (('a', thing, 1),), (('a', 'b', thing),), (('a', 'b', 1, thing),),
                          (('', 'a', 1), ('a', 'b', thing)), (('', thing, 1), ('a', 'b', 1)), thing):
                self.judge(TREE, STAND, bulks)
                self.judge(TREE, (2, 0, 0, 1), bulks)

    def test_the_order_of_the_pairs(self):
        self.wrong('bulk', 1, (('b', 'a', 1), ('a', 'b', 1)))
        self.wrong('bulk', 1, (('a', 'b', 1), ('a', 'b', 2)))
        self.wrong('bulk', 1, (('a', 'b', 2), ('a', 'b', 1)), TREE, (2, 0, 0, 0))
        self.wrong('bulk', 2, (('', 'a', 7), ('a', 'b', 1), ('', 'b', 1)))
        gives(self, 12, lets_bulks, TREE, STAND, (('', 'a', 7), ('', 'b', 4), ('a', 'b', 1)))

    def test_files(self):
        self.wrong('files', 'a', (('a', 'b', 1), ('a', 'c', 1)))
        self.wrong('files', 'a', (('a', 'b', 2), ('b', 'c', 2), ('c', 'a', 2)))
        self.wrong('files', 'b', (('a', 'b', 1), ('b', 'c', 2), ('c', 'a', 2)))
        self.wrong('files', 'top', (('top', '', 1),))
        # the order of the pairs first
        self.wrong('bulk', 1, (('a', 'c', BIG), ('a', 'b', BIG)))

    def test_files_outside_are_never_too_few(self):
        gives(self, 2 * BIG, lets_bulks, TREE, STAND, (('', 'a', BIG), ('', 'b', BIG)))
        gives(self, False, all_bulks_go, TREE, STAND, (('', 'a', BIG), ('', 'b', BIG)))

    def test_random_values(self):
        pick = random.Random(110)
        met = set()
        for tree, stand, lot in small_cases(111, 300):
            bulks = tuple((*move, lot.count(move)) for move in sorted(set(lot)))
            self.assertIsNone(self.judge(tree, stand, bulks))
            for _ in range(12):
                met.add(self.judge(tree, stand, plain.broken(pick, bulks, [*ODD, 2, 3, 'b', 'ab'])))
        self.assertLessEqual({('shape', -1), ('bulk', 0), ('bulk', 1), ('bulk', 3), ('files', 'ab'), ('files', 'cd'), None}, met)

    def test_more_than_twelve(self):
        tree = tuple((name, '', 9) for name in plain.MANY_NAMES[:6])
        bulks = tuple((*pair, 1) for pair in itertools.permutations(plain.MANY_NAMES[:6], 2))
        gives(self, 30, lets_bulks, tree, (5,) * 6, bulks)

    def test_bulks_of(self):
        gives(self, BULKS, bulks_of, LOT)
        gives(self, (('', 'a', 3), ('', 'b', 1), ('a', '', 2)), bulks_of, (('', 'a'),) * 3 + (('', 'b'),) + (('a', ''),) * 2)
        gives(self, (('x', 'y', 4000),), bulks_of, (('x', 'y'),) * 4000)
        for tree, stand, lot in small_cases(112, 300):
            bulks = bulks_of(lot)
            gives(self, bulks, bulks_of, lot)
            self.assertEqual(lot_of(bulks), lot)
            self.assertEqual(lets_bulks(tree, stand, bulks), len(lot))

    def test_bulks_of_wrong_lots(self):
        for thing in [*ODD, Other(), LOT[::-1], list(LOT), (('a', 'a'),), (('', ''),), (('a', 'b'), None)]:
            good = thing.__class__ is tuple and all(
                move.__class__ is tuple and len(move) == 2 and all(
                    spot.__class__ is str and (spot == '' or plain.is_plain_name(spot)) for spot in move)
                and move[0] != move[1] for move in thing) and list(thing) == sorted(thing)
            if not good:
                refuses(self, NotUsable, {'word': 'lot', 'at': -1}, bulks_of, thing)
                refuses(self, NotUsable, {'word': 'lot', 'at': -1}, bulks_of, lot=thing)
        self.assertEqual(bulks_of(lot=(('nobody', 'x'),)), (('nobody', 'x', 1),))

    def test_as_the_lot_is(self):
        went = set()
        for tree, stand, lot in small_cases(113, 600, plain.some_case, plain.SIX, 9):
            bulks = bulks_of(lot)
            gives(self, all_go(tree, stand, lot), all_bulks_go, tree, stand, bulks)
            gives(self, greatest_ring(tree, stand, lot), bulks_ring, tree, stand, bulks)
            went.add((all_bulks_go(tree, stand, bulks), bulks_ring(tree, stand, bulks) == ()))
        self.assertEqual(went, {(True, True), (False, False), (False, True)})

    def test_against_all_orders(self):
        for tree, stand, lot in small_cases(114, 200, plain.some_case, plain.SIX[:4], 8):
            bulks = bulks_of(lot)
            gives(self, plain.some_order(tree, stand, lot) is not None, all_bulks_go, tree, stand, bulks)
            gives(self, plain.greatest(tree, plain.all_rings(tree, stand, lot)), bulks_ring, tree, stand, bulks)

    def test_other_times_of_a_move(self):
        tree, stand = (('a', '', BIG), ('b', '', BIG), ('c', '', BIG)), (BIG, BIG, BIG - 2)
        for first, second in itertools.product((1, 2, 3, BIG - 9), repeat=2):
            bulks = (('a', 'b', first), ('b', 'a', second))
            gives(self, ('a', 'b'), bulks_ring, tree, stand, bulks)
            gives(self, False, all_bulks_go, tree, stand, bulks)
            # with a place in c the two files go over it, one after another
            more = (('a', 'b', first), ('a', 'c', 1), ('b', 'a', second))
            gives(self, (), bulks_ring, tree, stand, more)
            gives(self, 0 <= second - first <= 1, all_bulks_go, tree, stand, more)

    def test_sixty_digits(self):
        tree = (('a', 'p', BIG), ('b', 'p', BIG), ('p', '', 2 * BIG), ('q', '', BIG))
        bulks = (('a', 'b', BIG - 1), ('b', 'a', BIG - 1))
        gives(self, ('a', 'b'), bulks_ring, tree, (BIG, BIG, 0, 0), bulks)
        gives(self, True, all_bulks_go, tree, (BIG, BIG - 1, 0, BIG), bulks)
        gives(self, 2 * BIG - 2, lets_bulks, tree, (BIG, BIG - 1, 0, BIG), bulks)
        gives(self, ('p', 'q'), bulks_ring, tree, (BIG, BIG, 0, BIG), (('a', 'q', BIG), ('q', 'b', BIG)))
        gives(self, True, all_bulks_go, tree, (BIG, BIG, 0, 0), (('a', 'q', BIG), ('b', 'a', BIG)))
        gives(self, False, all_bulks_go, tree, (BIG, BIG, 0, 1), (('a', 'q', BIG), ('b', 'a', BIG)))

    def test_arguments(self):
        takes_arguments(self, lets_bulks, TREE, STAND, BULKS)
        takes_arguments(self, all_bulks_go, TREE, STAND, BULKS)
        takes_arguments(self, bulks_ring, TREE, STAND, BULKS)


if __name__ == '__main__':
    unittest.main()
