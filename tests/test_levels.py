"""Points 10, 25, 27, 36, 37, 55, 56 and 58: the levels Ends, Some and Every."""

import unittest

import plain
from support import (BIG, BOTH, LATE, LOT, NEAR, ODD, STAND, STUCK, SWAP, TREE, Other, gives, parameters, refuses,
                     small_cases)

from roomrings.ends import fits, misfits
from roomrings.errors import NotUsable
from roomrings.everyorder import every_order, refused_order
from roomrings.goers import all_go
from roomrings.levels import Ends, Every, Some
from roomrings.lotjudge import lets_all
from roomrings.orders import Order
from roomrings.shelves import Shelf

CLASSES = [Ends, Some, Every]


class Levels(unittest.TestCase):

    def test_interface(self):
        for made in CLASSES:
            self.assertEqual(parameters(made), ['tree', 'stand'])
            self.assertEqual([parameters(made(TREE, STAND).holds), parameters(made(TREE, STAND).shown)],
                             [['lot'], ['lot']])
            for name in ('__init__', '__eq__', 'holds', 'shown', 'tree', 'stand'):
                self.assertIn(name, vars(made))
            for name in ('tree', 'stand'):
                self.assertIsInstance(vars(made)[name], property)
        self.assertEqual([Ends.__bases__, Some.__bases__, Every.__bases__], [(object,), (Ends,), (Some,)])

    def test_examples(self):
        self.assertEqual([level.holds(LOT) for level in (Ends(TREE, STAND), Some(TREE, STAND), Every(TREE, STAND))],
                         [True, True, False])
        self.assertEqual([Some(NEAR, BOTH).holds(SWAP), Some(NEAR, BOTH).shown(SWAP), Ends(NEAR, BOTH).shown(SWAP),
                          Every(NEAR, BOTH).shown(())], [False, ('ring', ('a', 'b')), (), None])
        self.assertEqual([Ends(NEAR, BOTH) == Ends(NEAR, (1, 1)), Some(NEAR, BOTH) == Ends(NEAR, BOTH),
                          isinstance(Every(NEAR, BOTH), Some)], [True, False, True])

    def test_ordinary(self):
        for made in CLASSES:
            level = made(TREE, STAND)
            self.assertEqual([level.tree, level.stand], [TREE, STAND])
            gives(self, True, level.holds, ())
            gives(self, made is not Every, level.holds, LOT)
            gives(self, False, level.holds, (('', 'c'),))
        self.assertEqual(Ends(NEAR, BOTH).shown(LATE), ('a',))
        self.assertEqual(Some(NEAR, BOTH).shown(LATE), ('end', 'a'))
        self.assertEqual(Ends(NEAR, BOTH).shown((('', 'a'), ('', 'b'))), ('a', 'b'))
        self.assertEqual(Every(NEAR, BOTH).shown((('', 'a'),)), ((('', 'a'),), 0))
        self.assertEqual(Every(TREE, STAND).shown(LOT[2:]), None)
        self.assertEqual(Every((('a', '', BIG),), (BIG - 1,)).holds((('', 'a'),)), True)

    def test_against_the_functions_and_a_search(self):
        told = {}
        for tree, stand, lot in small_cases(250, 500, plain.some_case, plain.SIX[:4], 5):
            ends, some, every = (made(tree, stand) for made in CLASSES)
            gives(self, fits(tree, stand, lot), ends.holds, lot)
            gives(self, misfits(tree, stand, lot), ends.shown, lot)
            gives(self, all_go(tree, stand, lot), some.holds, lot)
            gives(self, all_go(tree, stand, lot), lets_all, tree, stand, lot, some.shown(lot))
            gives(self, every_order(tree, stand, lot), every.holds, lot)
            holds = ends.holds(lot), some.holds(lot), every.holds(lot)
            # where Every holds, Some holds, and where this does, Ends
            self.assertEqual(list(holds), sorted(holds, reverse=True))
            self.assertEqual(holds[0], not plain.crowded(tree, plain.at_end(tree, stand, lot)))
            self.assertEqual(holds[1], plain.some_order(tree, stand, lot) is not None)
            shown = every.shown(lot)
            self.assertEqual([shown is None, refused_order(tree, stand, lot) is None], [holds[2], holds[2]])
            if shown is not None:
                self.assertEqual([sorted(shown[0]), plain.first_refused(tree, stand, shown[0])], [list(lot), shown[1]])
            told[holds] = told.get(holds, 0) + 1
        self.assertEqual(len(told), 4)
        self.assertGreater(min(told.values()), 20)

    def test_more_room(self):
        for tree, stand, lot in small_cases(251, 300):
            for wide in [plain.wider(tree, (row[0],)) for row in tree] + [plain.wider(tree, [row[0] for row in tree])]:
                for made in CLASSES:
                    if made(tree, stand).holds(lot):
                        gives(self, True, made(wide, stand).holds, lot)

    def test_no_lots(self):
        wrong = [thing for thing in [*ODD, Other(), LOT[::-1], list(LOT), (('a', 'x'),), (('c', 'a'), ('c', 'b'))]
                 if plain.lot_fault(TREE, STAND, thing)]
        for made in CLASSES:
            level = made(TREE, STAND)
            for thing in wrong:
                refuses(self, NotUsable, {'word': 'lot', 'at': -1}, level.holds, thing)
                refuses(self, NotUsable, {'word': 'lot', 'at': -1}, level.shown, thing)
                refuses(self, NotUsable, {'word': 'lot', 'at': -1}, level.holds, lot=thing)
                refuses(self, NotUsable, {'word': 'lot', 'at': -1}, level.shown, lot=thing)
            self.assertEqual(level.holds(lot=()), True)

    def test_no_trees_and_stands(self):
        for made in CLASSES:
            for thing in [*ODD, Other()]:
                if plain.tree_fault(thing):
                    refuses(self, NotUsable, {'word': 'tree', 'at': -1}, made, thing, STAND)
                    refuses(self, NotUsable, {'word': 'tree', 'at': -1}, made, stand=None, tree=thing)
                if plain.stand_fault(TREE, thing):
                    refuses(self, NotUsable, {'word': 'stand', 'at': -1}, made, TREE, thing)
                    refuses(self, NotUsable, {'word': 'stand', 'at': -1}, made, stand=thing, tree=TREE)

    def test_equal(self):
        wide = plain.wider(TREE, ('c',))
        levels = [made(*case) for made in CLASSES for case in ((TREE, STAND), (wide, STAND), (TREE, (0, 1, 1, 0)))]
        again = [made(*case) for made in CLASSES for case in ((TREE, STAND), (wide, STAND), (TREE, (0, 1, 1, 0)))]
        for k, level in enumerate(levels):
            for n, other in enumerate(again):
                self.assertIs(level == other, k == n)
                self.assertIs(level != other, k != n)
            for thing in [*ODD, Other(), object(), Ends, Every, Shelf.of(TREE, STAND), Order(TREE, STAND)]:
                self.assertIs(level == thing, False)
                self.assertIs(thing == level, False)
                self.assertIs(level != thing, True)

    def test_another_class_of_the_same_name(self):
        for made in CLASSES:
            other = type(made.__name__, (), {'_tree': TREE, '_stand': STAND, 'tree': TREE, 'stand': STAND})()
            self.assertIs(made(TREE, STAND) == other, False)

    def test_a_level_stays_as_it_was(self):
        for made in CLASSES:
            level = made(STUCK, STAND)
            for name in ('tree', 'stand'):
                with self.assertRaises(AttributeError):
                    setattr(level, name, ())
            level.holds(LOT)
            level.shown(LOT)
            refuses(self, NotUsable, {'word': 'lot', 'at': -1}, level.holds, None)
            self.assertEqual([level.tree, level.stand, level == made(STUCK, STAND)], [STUCK, STAND, True])


if __name__ == '__main__':
    unittest.main()
