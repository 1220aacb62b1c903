"""Points 5, 6, 9 (O4), 10, 50 and 57: turned_lot, turned_stand."""

import unittest

import plain
from support import (BIG, BOTH, LOT, NEAR, ODD, STAND, SWAP, TREE, Other, gives, parameters, refuses, small_cases,
                     takes_arguments)

from roomrings.asides import fewest_aside
from roomrings.errors import NotUsable
from roomrings.lotchecker import lets_lot
from roomrings.rings import greatest_ring, inner_rings
from roomrings.standchecker import lets_stand
from roomrings.turning import turned_lot, turned_stand
from roomrings.widening import fewest_widened


def is_lot(thing):
    """Whether a value is a sorted tuple of moves by form."""
    def is_spot(spot):
        return plain.is_plain_name(spot) or (spot.__class__ is str and not spot)
    if thing.__class__ is not tuple:
        return False
    good = all(move.__class__ is tuple and len(move) == 2 and is_spot(move[0]) and is_spot(move[1])
               and move[0] != move[1] for move in thing)
    return good and list(thing) == sorted(thing)


class Turning(unittest.TestCase):

    def test_parameters(self):
        self.assertEqual(parameters(turned_lot), ['lot'])
        self.assertEqual(parameters(turned_stand), ['tree', 'stand', 'lot'])

    def test_examples(self):
        self.assertEqual([turned_lot(LOT), turned_stand(TREE, STAND, LOT), turned_lot((('', 'a'), ('', 'a')))],
                         [(('a', 'c'), ('b', 'a'), ('c', 'b')), (1, 1, 1, 0), (('a', ''), ('a', ''))])

    def test_ordinary(self):
        gives(self, (), turned_lot, ())
        gives(self, STAND, turned_stand, TREE, STAND, ())
        gives(self, (('', 'x'), ('x', '')), turned_lot, (('', 'x'), ('x', '')))
        # any names, and sorted anew
        gives(self, (('b', 'z'), ('c', 'y'), ('d', 'a')), turned_lot, (('a', 'd'), ('y', 'c'), ('z', 'b')))
        gives(self, (('', 'abcdefgh'),) * 3, turned_lot, (('abcdefgh', ''),) * 3)
        gives(self, (2, 0, 1, 0), turned_stand, TREE, STAND, (('b', 'c'), ('c', 'a')))
        gives(self, (1, 1, 0, 0), turned_stand, TREE, STAND, (('c', ''),))
        gives(self, (BIG - 2, 2), turned_stand, (('a', '', BIG), ('b', 'a', 3)), (BIG, 0), (('a', 'b'),) * 2)

    def test_moves_of_every_kind(self):
        for thing in [*ODD, Other(), *[(move,) for move in ODD], *[(('a', 'b'), move) for move in ODD],
                      *[((part, 'b'),) for part in ODD], *[(('a', part),) for part in ODD], list(LOT), LOT[::-1]]:
            if is_lot(thing):
                gives(self, tuple(sorted(move[::-1] for move in thing)), turned_lot, thing)
            else:
                refuses(self, NotUsable, {'word': 'lot', 'at': -1}, turned_lot, thing)
                refuses(self, NotUsable, {'word': 'lot', 'at': -1}, turned_lot, lot=thing)

    def test_turned_about_again(self):
        for tree, stand, lot in [*small_cases(210, 300, plain.some_fitting, plain.SIX, 7),
                                 *small_cases(211, 100, plain.some_stuck)]:
            turned, end = turned_lot(lot), turned_stand(tree, stand, lot)
            self.assertEqual(sorted(turned), sorted((move[1], move[0]) for move in lot))
            self.assertEqual(end, plain.at_end(tree, stand, lot))
            self.assertEqual([lets_stand(tree, end), lets_lot(tree, end, turned)], [sum(end), len(lot)])
            self.assertEqual([turned_lot(turned), turned_stand(tree, end, turned)], [lot, stand])

    def test_the_same_rings(self):
        seen = 0
        for tree, stand, lot in [*small_cases(212, 150, plain.some_fitting, plain.SIX[:5], 6),
                                 *small_cases(213, 150, plain.some_stuck, plain.SIX[:5])]:
            turned, end = turned_lot(lot), turned_stand(tree, stand, lot)
            rings = plain.all_rings(tree, stand, lot)
            self.assertEqual(plain.all_rings(tree, end, turned), rings)
            self.assertEqual(greatest_ring(tree, end, turned), greatest_ring(tree, stand, lot))
            self.assertEqual(inner_rings(tree, end, turned), inner_rings(tree, stand, lot))
            self.assertEqual(fewest_aside(tree, end, turned), fewest_aside(tree, stand, lot))
            self.assertEqual(len(fewest_widened(tree, end, turned)), len(fewest_widened(tree, stand, lot)))
            seen += bool(rings)
        self.assertGreater(seen, 60)

    def test_ends_that_do_not_fit(self):
        refuses(self, NotUsable, {'word': 'end', 'at': 'a'}, turned_stand, NEAR, BOTH, (('', 'a'), ('', 'b')))
        seen = 0
        for tree, stand, lot in small_cases(214, 200):
            crowded = plain.crowded(tree, plain.at_end(tree, stand, lot))
            if crowded:
                seen += 1
                refuses(self, NotUsable, {'word': 'end', 'at': crowded[0]}, turned_stand, tree, stand, lot)
                # the moves turned about need no stand
                gives(self, tuple(sorted(move[::-1] for move in lot)), turned_lot, lot)
        self.assertGreater(seen, 10)

    def test_arguments(self):
        takes_arguments(self, turned_stand, TREE, STAND, LOT)
        self.assertEqual(turned_lot(lot=SWAP), SWAP)
        refuses(self, NotUsable, {'word': 'lot', 'at': -1}, turned_stand, NEAR, BOTH, (('', 'a'), ('', 'x')))


if __name__ == '__main__':
    unittest.main()
