"""Points 10 and 17: with_room, renamed, renamed_stand, renamed_lot."""

import random
import unittest

import plain
from support import BIG, LOT, ODD, STAND, TREE, by_name_turned, gives, parameters, refuses

from roomrings.errors import NotUsable
from roomrings.kinds import is_moves
from roomrings.treechanges import renamed, renamed_lot, renamed_stand, with_room

NO_PAIRS = [thing for thing in ODD if not (isinstance(thing, tuple) and len(thing) == 2
                                           and all(plain.is_plain_name(name) for name in thing))]


def other_names(pairs, names):
    return [dict(pairs).get(name, name) for name in names]


class WithRoom(unittest.TestCase):

    def refused(self, word, at, *args):
        refuses(self, NotUsable, {'word': word, 'at': at}, with_room, *args)
        tree, folder, room = args
        refuses(self, NotUsable, {'word': word, 'at': at}, with_room, room=room, folder=folder, tree=tree)

    def test_parameters(self):
        self.assertEqual(parameters(with_room), ['tree', 'folder', 'room'])

    def test_rooms(self):
        self.assertEqual(with_room(TREE, 'c', 4)[2], ('c', '', 4))
        gives(self, TREE, with_room, TREE, 'c', 1)
        gives(self, (('a', 'top', 0), *TREE[1:]), with_room, TREE, 'a', 0)
        gives(self, (*TREE[:3], ('top', '', BIG)), with_room, TREE, 'top', BIG)
        self.assertEqual(by_name_turned(with_room, ['tree', 'folder', 'room'], [TREE, 'b', 7])[1], ('b', 'top', 7))

    def test_no_number(self):
        for thing in ODD:
            if not plain.is_plain_number(thing):
                self.refused('room', thing, TREE, 'a', thing)

    def test_wrong_tree_and_folder(self):
        for thing in ODD:
            if plain.tree_fault(thing):
                self.refused('tree', -1, thing, 'a', 1)
                self.refused('tree', -1, thing, None, None)
            if thing not in ('a', 'c', 'top'):
                self.refused('folder', thing, TREE, thing, 1)
                self.refused('folder', thing, TREE, thing, None)

    def test_random_rooms(self):
        pick = random.Random(21)
        for _ in range(200):
            tree = plain.some_tree(pick, plain.MANY_NAMES)
            k, room = pick.randrange(len(tree)), pick.randrange(9)
            changed = (*tree[:k], (*tree[k][:2], room), *tree[k + 1:])
            gives(self, changed, with_room, tree, tree[k][0], room)


class Renaming(unittest.TestCase):
    """All three, by one and the same pairs."""

    def refused(self, word, at, *pairs):
        fields = {'word': word, 'at': at}
        refuses(self, NotUsable, fields, renamed, TREE, *pairs)
        refuses(self, NotUsable, fields, renamed_stand, TREE, STAND, *pairs)
        refuses(self, NotUsable, fields, renamed_lot, LOT, *pairs)

    def test_parameters(self):
        self.assertEqual(parameters(renamed), ['tree', '*pairs'])
        self.assertEqual(parameters(renamed_stand), ['tree', 'stand', '*pairs'])
        self.assertEqual(parameters(renamed_lot), ['lot', '*pairs'])

    def test_examples(self):
        self.assertEqual(renamed(TREE, ('a', 'z'))[3], ('z', 'top', 2))
        gives(self, (1, 1, 0, 1), renamed_stand, TREE, STAND, ('a', 'z'))
        gives(self, (('b', 'c'), ('c', 'z'), ('z', 'b')), renamed_lot, LOT, ('a', 'z'))
        refuses(self, NotUsable, {'word': 'names', 'at': -1}, renamed, TREE, ('a', 'c'))

    def test_no_pair(self):
        gives(self, TREE, renamed, TREE)
        gives(self, STAND, renamed_stand, TREE, STAND)
        gives(self, LOT, renamed_lot, LOT)
        gives(self, (), renamed_lot, ())
        self.assertEqual([renamed(tree=TREE), renamed_stand(stand=STAND, tree=TREE), renamed_lot(lot=LOT)],
                         [TREE, STAND, LOT])

    def test_names_exchanged(self):
        pairs = ('a', 'c'), ('c', 'a')
        gives(self, (('a', '', 1), ('b', 'top', 1), ('c', 'top', 2), ('top', '', 3)), renamed, TREE, *pairs)
        gives(self, (0, 1, 2, 0), renamed_stand, TREE, (2, 1, 0, 0), *pairs)
        gives(self, (('a', 'c'), ('b', 'a'), ('c', 'b')), renamed_lot, LOT, *pairs)

    def test_three_names_turned_about(self):
        pairs = ('a', 'b'), ('b', 'top'), ('top', 'a')
        gives(self, (('a', '', 3), ('b', 'a', 2), ('c', '', 1), ('top', 'a', 1)), renamed, TREE, *pairs)
        gives(self, (0, 2, 0, 1), renamed_stand, TREE, (2, 1, 0, 0), *pairs)
        gives(self, (('b', 'top'), ('c', 'b'), ('top', 'c')), renamed_lot, LOT, *pairs)

    def test_parents_too(self):
        gives(self, (('a', 'p', 2), ('b', 'p', 1), ('c', '', 1), ('p', '', 3)), renamed, TREE, ('top', 'p'))

    def test_names_that_are_not_there(self):
        gives(self, TREE, renamed, TREE, ('x', 'y'), ('y', 'a'), ('z', 'a'))
        gives(self, STAND, renamed_stand, TREE, STAND, ('x', 'y'), ('y', 'a'), ('z', 'a'))
        gives(self, LOT, renamed_lot, LOT, ('x', 'y'), ('y', 'a'), ('top', 'a'), ('z', 'a'))

    def test_a_name_that_stays(self):
        gives(self, TREE, renamed, TREE, ('a', 'a'))
        gives(self, LOT, renamed_lot, LOT, ('a', 'a'))

    def test_outside_stays(self):
        gives(self, (('', 'z'), ('z', '')), renamed_lot, (('', 'a'), ('a', '')), ('a', 'z'))

    def test_equal_moves_stay_equal(self):
        gives(self, (('b', 'z'), ('z', 'b'), ('z', 'b')), renamed_lot, (('a', 'b'), ('a', 'b'), ('b', 'a')), ('a', 'z'))

    def test_values_that_are_no_pairs(self):
        for thing in NO_PAIRS:
            self.refused('pairs', 0, thing)
            self.refused('pairs', 0, thing, thing)
            self.refused('pairs', 1, ('a', 'z'), thing)
            self.refused('pairs', 2, ('a', 'z'), ('b', 'y'), thing, None)

    def test_each_value_in_each_place_of_a_pair(self):
        for thing in ODD:
            for pair in ((thing, 'z'), ('a', thing), (thing, thing)):
                if pair in NO_PAIRS or not all(plain.is_plain_name(name) for name in pair):
                    self.refused('pairs', 0, pair)
        for pair in (('', 'a'), ('a', ''), ('a',), ('a', 'b', 'c'), ['a', 'z'], ('A', 'b'), 'az', ('a', 'abcdefghi')):
            self.refused('pairs', 0, pair)

    def test_a_pair_twice(self):
        self.refused('name', 'a', ('a', 'z'), ('a', 'z'))
        self.refused('name', 'a', ('a', 'z'), ('b', 'y'), ('a', 'x'))
        self.refused('name', 'x', ('x', 'z'), ('x', 'z'))
        self.refused('name', 'b', ('a', 'z'), ('b', 'y'), ('b', 'x'), ('a', 'x'))

    def test_two_folders_of_one_name(self):
        self.refused('names', -1, ('a', 'b'))
        self.refused('names', -1, ('a', 'z'), ('b', 'z'))
        self.refused('names', -1, ('a', 'b'), ('b', 'c'))
        self.refused('names', -1, ('x', 'y'), ('a', 'b'))

    def test_names_of_the_tree_and_of_the_lot_are_their_own(self):
        refuses(self, NotUsable, {'word': 'names', 'at': -1}, renamed, TREE, ('a', 'top'))
        refuses(self, NotUsable, {'word': 'names', 'at': -1}, renamed_stand, TREE, STAND, ('a', 'top'))
        gives(self, (('b', 'c'), ('c', 'top'), ('top', 'b')), renamed_lot, LOT, ('a', 'top'))
        refuses(self, NotUsable, {'word': 'names', 'at': -1}, renamed_lot, (('', 'a'), ('b', '')), ('a', 'b'))
        gives(self, (('', 'b'),), renamed_lot, (('', 'a'),), ('a', 'b'))

    def test_two_faults(self):
        self.refused('pairs', 0, None, ('a', 'b'))
        self.refused('name', 'a', ('a', 'b'), ('a', 'b'), None)
        self.refused('pairs', 1, ('a', 'b'), None, ('a', 'b'))
        self.refused('pairs', 1, ('a', 'b'), ('a', 1))
        self.refused('name', 'a', ('a', 'b'), ('a', 'b'))

    def test_wrong_tree_stand_and_lot(self):
        for thing in ODD:
            if plain.tree_fault(thing):
                refuses(self, NotUsable, {'word': 'tree', 'at': -1}, renamed, thing, ('a', 'z'))
                refuses(self, NotUsable, {'word': 'tree', 'at': -1}, renamed, thing, None)
                refuses(self, NotUsable, {'word': 'tree', 'at': -1}, renamed_stand, thing, STAND)
                refuses(self, NotUsable, {'word': 'tree', 'at': -1}, renamed_stand, thing, None, None)
            if plain.stand_fault(TREE, thing):
                refuses(self, NotUsable, {'word': 'stand', 'at': -1}, renamed_stand, TREE, thing)
                refuses(self, NotUsable, {'word': 'stand', 'at': -1}, renamed_stand, TREE, thing, None)
            if not is_moves(thing):
                refuses(self, NotUsable, {'word': 'lot', 'at': -1}, renamed_lot, thing)
                refuses(self, NotUsable, {'word': 'lot', 'at': -1}, renamed_lot, thing, None)

    def test_against_the_plain_reading(self):
        pick = random.Random(22)
        seen = set()
        for _ in range(2000):
            tree = plain.some_tree(pick)
            stand = plain.some_stand(pick, tree)
            lot = plain.some_moves(pick, tree)
            old = pick.sample(plain.SIX, pick.randrange(4))
            pairs = [(name, pick.choice([*plain.SIX, 'q', 'r'])) for name in old]
            names = [row[0] for row in tree]
            if len(set(other_names(pairs, names))) < len(names):
                seen.add('tree')
                refuses(self, NotUsable, {'word': 'names', 'at': -1}, renamed, tree, *pairs)
                refuses(self, NotUsable, {'word': 'names', 'at': -1}, renamed_stand, tree, stand, *pairs)
            else:
                rows = [(*other_names(pairs, row[:2]), row[2]) for row in tree]
                gives(self, tuple(sorted(rows)), renamed, tree, *pairs)
                lying = dict(zip(other_names(pairs, names), stand))
                gives(self, tuple(lying[name] for name in sorted(lying)), renamed_stand, tree, stand, *pairs)
                self.assertIsNone(plain.stand_fault(renamed(tree, *pairs), renamed_stand(tree, stand, *pairs)))
            spots = {spot for move in lot for spot in move}
            if len(set(other_names(pairs, spots))) < len(spots):
                seen.add('lot')
                refuses(self, NotUsable, {'word': 'names', 'at': -1}, renamed_lot, lot, *pairs)
            else:
                moves = tuple(sorted(tuple(other_names(pairs, move)) for move in lot))
                gives(self, moves, renamed_lot, lot, *pairs)
        self.assertEqual(seen, {'tree', 'lot'})

    def test_pairs_turned_about_take_the_renaming_back(self):
        pick = random.Random(23)
        for _ in range(300):
            tree = plain.some_tree(pick)
            stand = plain.some_stand(pick, tree)
            lot = plain.some_lot(pick, tree, stand)
            old = pick.sample(plain.SIX, pick.randrange(5))
            pairs = list(zip(old, pick.sample(['k', 'l', 'm', 'n', 'o'], len(old))))
            back = [(other, name) for name, other in pairs]
            there = renamed(tree, *pairs)
            self.assertEqual(renamed(there, *back), tree)
            self.assertEqual(renamed_stand(there, renamed_stand(tree, stand, *pairs), *back), stand)
            self.assertEqual(renamed_lot(renamed_lot(lot, *pairs), *back), lot)

    def test_large(self):
        for many in (16, 32):
            names = plain.MANY_NAMES[:many]
            tree = tuple((name, parent, BIG) for name, parent in zip(names, ['', *names]))
            turned = dict(zip(names, names[::-1]))
            rows = tuple(sorted((turned[name], turned.get(parent, ''), BIG) for name, parent, _ in tree))
            gives(self, rows, renamed, tree, *turned.items())
            gives(self, tuple(range(many))[::-1], renamed_stand, tree, tuple(range(many)), *turned.items())


if __name__ == '__main__':
    unittest.main()
