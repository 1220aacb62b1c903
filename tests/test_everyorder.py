"""Points 6, 9 (O3), 10, 27, 28 and 29: every_order, refused_order, room_for_end, room_for_every."""

import itertools
import unittest

import plain
from support import BIG, LOT, STAND, TREE, gives, parameters, small_cases, takes_arguments

from roomrings.crossings import entering
from roomrings.ends import end_counts, fits
from roomrings.everyorder import every_order, refused_order, room_for_end, room_for_every

CALLS = [every_order, refused_order, room_for_end, room_for_every]
TIGHT = (('a', 'p', 1), ('c', 'p', 1), ('p', '', 1))


def with_rooms(tree, rooms):
    return tuple((*row[:2], room) for row, room in zip(tree, rooms))


def all_orders_go(tree, stand, lot):
    return all(plain.first_refused(tree, stand, order) is None for order in set(itertools.permutations(lot)))


class EveryOrder(unittest.TestCase):

    def check_refused(self, tree, stand, lot):
        pair = refused_order(tree, stand, lot)
        self.assertIs(pair.__class__, tuple)
        order, k = pair
        self.assertIs(order.__class__, tuple)
        self.assertIs(k.__class__, int)
        self.assertEqual(tuple(sorted(order)), lot)
        self.assertEqual(plain.first_refused(tree, stand, order), k)

    def test_parameters(self):
        for call in CALLS:
            self.assertEqual(parameters(call), ['tree', 'stand', 'lot'])

    def test_examples(self):
        self.assertEqual([every_order(TREE, STAND, LOT), every_order(TREE, STAND, LOT[2:]),
                          refused_order(TREE, STAND, LOT[2:])], [False, True, None])
        self.assertEqual([room_for_end(TREE, STAND, LOT), room_for_every(TREE, STAND, LOT)],
                         [(1, 1, 1, 2), (2, 2, 2, 3)])
        lot = (('', 'a'), ('c', ''))
        self.assertEqual([every_order(TIGHT, (0, 1, 0), lot), refused_order(TIGHT, (0, 1, 0), lot)],
                         [False, ((('', 'a'), ('c', '')), 0)])

    def test_no_moves(self):
        gives(self, True, every_order, TREE, STAND, ())
        gives(self, None, refused_order, TREE, STAND, ())
        gives(self, (1, 1, 1, 2), room_for_end, TREE, STAND, ())
        gives(self, (1, 1, 1, 2), room_for_every, TREE, STAND, ())

    def test_equal_moves(self):
        tree = (('a', '', 2), ('b', '', 3))
        gives(self, ((('b', 'a'),) * 3, 2), refused_order, tree, (0, 3), (('b', 'a'),) * 3)
        gives(self, None, refused_order, tree, (0, 3), (('b', 'a'),) * 2)
        gives(self, True, every_order, tree, (0, 3), (('b', 'a'),) * 2)

    def test_a_folder_around_is_scarce(self):
        tree, stand = (('a', 'p', 9), ('b', 'p', 9), ('p', '', 3), ('q', '', 4)), (1, 0, 0, 4)
        gives(self, False, every_order, tree, stand, (('a', ''), ('q', 'a'), ('q', 'b'), ('q', 'b')))
        self.check_refused(tree, stand, (('a', ''), ('q', 'a'), ('q', 'b'), ('q', 'b')))
        gives(self, True, every_order, tree, stand, (('a', ''), ('q', 'a'), ('q', 'b')))

    def test_against_all_orders_of_small_lots(self):
        found = []
        for tree, stand, lot in small_cases(55, 700, plain.some_case, plain.SIX[:5], 5):
            goes = all_orders_go(tree, stand, lot)
            gives(self, goes, every_order, tree, stand, lot)
            if goes:
                gives(self, None, refused_order, tree, stand, lot)
                self.assertTrue(fits(tree, stand, lot))
            else:
                self.check_refused(tree, stand, lot)
            found.append(goes and len(lot) > 1)
        self.assertGreater(found.count(True), 30)

    def test_where_the_end_does_not_fit_each_order_is_refused(self):
        for tree, stand, lot in small_cases(56, 300):
            if plain.crowded(tree, plain.at_end(tree, stand, lot)):
                self.check_refused(tree, stand, lot)

    def test_by_free_places(self):
        for tree, stand, lot in small_cases(57, 300, plain.some_case, plain.SIX, 12):
            free = plain.places(tree, stand)
            goes = all(entering(tree, lot, name) <= many for name, many in free.items())
            gives(self, goes, every_order, tree, stand, lot)

    def test_rooms_by_the_words(self):
        for tree, stand, lot in small_cases(58, 400, plain.some_case, plain.SIX, 10):
            ends, everies = [], []
            for name, _, _ in tree:
                use = plain.uses(tree, stand, name)
                come = sum(name in plain.entered(tree, move) for move in lot)
                go = sum(name in plain.left_by(tree, move) for move in lot)
                ends.append(use + max(0, come - go))
                everies.append(use + come)
            gives(self, tuple(ends), room_for_end, tree, stand, lot)
            gives(self, tuple(everies), room_for_every, tree, stand, lot)

    def test_with_these_rooms_and_with_less(self):
        for tree, stand, lot in small_cases(59, 200, plain.some_case, plain.SIX[:4], 4):
            ends, everies = room_for_end(tree, stand, lot), room_for_every(tree, stand, lot)
            self.assertTrue(fits(with_rooms(tree, ends), stand, lot))
            self.assertTrue(fits(with_rooms(tree, [room + 2 for room in ends]), stand, lot))
            self.assertTrue(all_orders_go(with_rooms(tree, everies), stand, lot))
            self.assertTrue(every_order(with_rooms(tree, everies), stand, lot))
            self.assertTrue(every_order(with_rooms(tree, [room + 1 for room in everies]), stand, lot))
            for k in range(len(tree)):
                if ends[k]:
                    less = with_rooms(tree, [room - (place == k) for place, room in enumerate(ends)])
                    if plain.stand_fault(less, stand) is None:
                        self.assertFalse(fits(less, stand, lot))
                if everies[k]:
                    less = with_rooms(tree, [room - (place == k) for place, room in enumerate(everies)])
                    if plain.stand_fault(less, stand) is None:
                        self.assertFalse(every_order(less, stand, lot))
                        self.assertFalse(all_orders_go(less, stand, lot))
                        self.check_refused(less, stand, lot)

    def test_rooms_do_not_depend_on_rooms(self):
        wide = with_rooms(TREE, [BIG, 9, 8, 7])
        self.assertEqual(room_for_end(wide, STAND, LOT), (1, 1, 1, 2))
        self.assertEqual(room_for_every(wide, STAND, LOT), (2, 2, 2, 3))

    def test_large(self):
        names = plain.MANY_NAMES[:12]
        tree = tuple((name, '', BIG) for name in names)
        stand = (BIG,) * 11 + (BIG - 24,)
        lot = tuple(sorted((name, names[-1]) for name in [*names[:11], *names[:11], *names[:2]]))
        self.assertEqual(len(lot), 24)
        gives(self, True, every_order, tree, stand, lot)
        gives(self, None, refused_order, tree, stand, lot)
        gives(self, (BIG,) * 12, room_for_every, tree, stand, lot)
        gives(self, (BIG,) * 12, room_for_end, tree, stand, lot)
        tight = (*tree[:-1], (names[-1], '', BIG - 1))
        self.check_refused(tight, stand, lot)
        self.assertEqual(refused_order(tight, stand, lot)[1], 23)
        self.assertEqual(end_counts(tree, stand, lot)[-1], BIG)
        turned = tuple(sorted((names[-1], name) for name in names[:11]))
        gives(self, (BIG + 1,) * 11 + (BIG - 24,), room_for_every, tree, stand, turned)

    def test_arguments(self):
        for call in CALLS:
            takes_arguments(self, call, TREE, STAND, LOT)


if __name__ == '__main__':
    unittest.main()
