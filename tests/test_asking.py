"""Points 2, 9 (O7), 10, 52, 53, 54 and 58: lets_asked, held_in, can_ask, can_finish, finishing."""

import itertools
import random
import unittest

import plain
from support import (BIG, BOTH, LOT, NEAR, ODD, STAND, SWAP, TREE, Other, gives, parameters, refuses, small_cases,
                     takes_arguments)

from roomrings.askchecker import lets_asked
from roomrings.asking import can_ask, can_finish, finishing, held_in
from roomrings.ends import fits
from roomrings.errors import InvalidPaper, NotUsable
from roomrings.goers import all_go
from roomrings.rings import greatest_ring

PAIR, COME = (('a', '', 2), ('b', '', 1)), (('', 'a'), ('a', 'b'), ('b', 'a'))
ROOMY, MANY = (('a', 'p', 3), ('b', 'p', 3), ('p', '', 5)), (('', 'a'), ('', 'a'), ('a', 'b'), ('a', 'b'), ('b', 'a'))


class AskChecker(unittest.TestCase):

    def judge(self, tree, stand, lot, thing):
        fault = plain.asked_fault(tree, stand, lot, thing)
        if fault is None:
            gives(self, len(thing), lets_asked, tree, stand, lot, thing)
        else:
            refuses(self, InvalidPaper, {'word': fault[0], 'at': fault[1]}, lets_asked, tree, stand, lot, thing)
        return fault

    def wrong(self, word, at, thing, tree=ROOMY, stand=(2, 1, 0), lot=MANY):
        self.assertEqual(self.judge(tree, stand, lot, thing), (word, at))

    def test_parameters(self):
        self.assertEqual(parameters(lets_asked), ['tree', 'stand', 'lot', 'thing'])

    def test_right_ones(self):
        gives(self, 0, lets_asked, TREE, STAND, LOT, ())
        gives(self, 0, lets_asked, NEAR, BOTH, (), ())
        gives(self, 1, lets_asked, TREE, STAND, LOT, (('c', 'a'),))
        gives(self, 1, lets_asked, PAIR, BOTH, COME, (('', 'a'),))
        gives(self, 5, lets_asked, (('a', 'p', 5), ('b', 'p', 3), ('p', '', 5)), (2, 1, 0), MANY, MANY)
        gives(self, 3, lets_asked, ROOMY, (2, 1, 0), MANY, (('', 'a'), ('a', 'b'), ('a', 'b')))

    def test_shape(self):
        for thing in [*ODD, Other(), list(LOT), {}, 'go']:
            if not isinstance(thing, tuple):
                self.wrong('shape', -1, thing)

    def test_move(self):
        for move in [*ODD, Other(), ('a', 'x'), ('', 'b'), ['a', 'b'], ('a', 'b', 'a'), ('p', '')]:
            if move not in MANY:
                self.wrong('move', 0, (move,))
                self.wrong('move', 0, (move, None))
                self.wrong('move', 1, (('', 'a'), move))
                self.wrong('move', 2, (('', 'a'), ('', 'a'), move, ('a', 'b')))
        # more often than in the lot
        self.wrong('move', 2, (('', 'a'),) * 3)
        self.wrong('move', 1, (('b', 'a'),) * 2)
        self.wrong('move', 3, (('', 'a'), ('', 'a'), ('a', 'b'), ('', 'a')))
        # less than the one before
        self.wrong('move', 1, (('a', 'b'), ('', 'a')))
        self.wrong('move', 2, (('', 'a'), ('b', 'a'), ('a', 'b')))

    def test_full(self):
        self.wrong('full', 'a', (('', 'a'), ('', 'a')))
        # p is full as well, but a comes first
        self.wrong('full', 'a', (('', 'a'), ('', 'a')), (('a', 'p', 3), ('b', 'p', 3), ('p', '', 4)), (2, 1, 0))
        self.wrong('full', 'p', (('', 'a'), ('', 'a')), (('a', 'p', 4), ('b', 'p', 3), ('p', '', 4)), (2, 1, 0))
        self.wrong('full', 'a', (('', 'a'), ('b', 'a')))
        self.wrong('full', 'b', (('a', 'b'),), NEAR, BOTH, SWAP)
        self.wrong('full', 'a', SWAP, NEAR, BOTH, SWAP)
        # what leaves counts in its source as long as it waits
        self.wrong('full', 'b', (('a', 'b'), ('b', 'a')), PAIR, BOTH, COME)
        # a move that is wrong comes first
        self.wrong('move', 2, (('', 'a'), ('', 'a'), ('b', '')))
        self.wrong('move', 2, (('', 'a'), ('b', 'a'), ('a', 'b')))

    def test_values_that_are_spoilt(self):
        pick = random.Random(230)
        odd = [*ODD, ('p', 'q'), (('a', 'b'),) * 2, SWAP, ('', 'ab')]
        met = set()
        for tree, stand, lot in small_cases(231, 400, plain.some_case, plain.SIX[:4], 6):
            for thing in (lot, plain.some_asked(pick, tree, stand, lot)):
                met.add(self.judge(tree, stand, lot, thing))
                for _ in range(4):
                    spoilt = plain.broken(pick, thing, odd)
                    met.add(self.judge(tree, stand, lot, spoilt))
                    met.add(self.judge(tree, stand, lot, plain.broken(pick, spoilt, odd)))
        self.assertEqual({fault and fault[0] for fault in met}, {'shape', 'move', 'full', None})

    def test_each_part_of_a_lot(self):
        for tree, stand, lot in small_cases(232, 60, plain.some_case, plain.SIX[:4], 4):
            for many in range(len(lot) + 1):
                for part in set(itertools.combinations(lot, many)):
                    self.judge(tree, stand, lot, part)
                    self.judge(tree, stand, lot, part[::-1])

    def test_each_value_in_each_place(self):
        for thing in [*ODD, Other()]:
            for asked in (thing, (thing,), (thing, ('a', 'b')), (('', 'a'), thing), ((thing, 'a'),), (('', thing),),
                          (('', 'a'), (thing, 'b')), (('', 'a'), ('a', thing)), [thing]):
                self.judge(ROOMY, (2, 1, 0), MANY, asked)

    def test_arguments(self):
        takes_arguments(self, lets_asked, TREE, STAND, LOT, (('c', 'a'),))
        gives(self, 0, lets_asked, TREE, STAND, LOT, thing=())


class Asking(unittest.TestCase):

    def test_parameters(self):
        self.assertEqual(parameters(held_in), ['tree', 'stand', 'lot', 'asked', 'folder'])
        self.assertEqual(parameters(can_ask), ['tree', 'stand', 'lot', 'asked', 'move'])
        for call in (can_finish, finishing):
            self.assertEqual(parameters(call), ['tree', 'stand', 'lot', 'asked'])

    def test_examples(self):
        self.assertEqual([held_in(PAIR, BOTH, COME, COME[:1], 'a'), can_ask(PAIR, BOTH, COME, COME[:1], ('b', 'a')),
                          can_ask(PAIR, BOTH, COME, (), ('b', 'a'))], [2, False, True])
        self.assertEqual([can_finish(PAIR, BOTH, COME, COME[:1]), can_finish(PAIR, BOTH, COME, COME[2:]),
                          finishing(PAIR, (2, 1), (('b', 'a'),), ())], [False, True, None])

    def test_held(self):
        asked = (('', 'a'), ('a', 'b'))
        self.assertEqual([held_in(ROOMY, (2, 1, 0), MANY, asked, name) for name in 'abp'], [3, 2, 4])
        self.assertEqual([held_in(ROOMY, (2, 1, 0), MANY, (), name) for name in 'abp'], [2, 1, 3])
        gives(self, BIG, held_in, (('a', '', BIG),), (BIG - 1,), (('', 'a'),), (('', 'a'),), 'a')

    def test_can_ask(self):
        asked = (('', 'a'),)
        tells = {move: can_ask(ROOMY, (2, 1, 0), MANY, asked, move) for move in MANY}
        self.assertEqual(tells, {('', 'a'): False, ('a', 'b'): True, ('b', 'a'): False})
        # as often as it is in the lot
        gives(self, False, can_ask, TREE, STAND, LOT, (('c', 'a'),), ('c', 'a'))
        wide = (('a', 'p', 9), ('b', 'p', 9), ('p', '', 9))
        for many in range(3):
            gives(self, many < 2, can_ask, wide, (2, 1, 0), MANY, (('', 'a'),) * many, ('', 'a'))
        # between spots that the lot has no move between
        for move in (('a', ''), ('', 'p'), ('b', 'p'), ('p', 'a')):
            gives(self, False, can_ask, ROOMY, (2, 1, 0), MANY, (), move)
        # into what is around the source nothing is held
        gives(self, True, can_ask, (('a', 'p', 1), ('p', '', 1)), (1, 0), (('a', 'p'),), (), ('a', 'p'))
        gives(self, True, can_ask, (('a', '', 0), ('b', '', 1)), (0, 1), (('b', ''),), (), ('b', ''))

    def test_against_all_walks(self):
        """Each step of each walk, told and tried one by one."""
        told = {True: 0, False: 0}
        for tree, stand, lot in small_cases(233, 150, plain.some_case, plain.SIX[:4], 5):
            names = [row[0] for row in tree]
            ahead, met = [(lot, (), stand)], {(lot, (), stand)}
            while ahead:
                state = left, asked, now = ahead.pop()
                rest = tuple(sorted(left + asked))
                self.assertEqual([held_in(tree, now, rest, asked, name) for name in names],
                                 [plain.held(tree, now, asked, name) for name in names])
                for move in itertools.permutations(['', *names], 2):
                    later = plain.ask_taken(tree, state, ('ask', *move))
                    gives(self, later is not None, can_ask, tree, now, rest, asked, move)
                    told[later is not None] += 1
                for step in [('ask', *move) for move in set(left)] + [('done', *move) for move in set(asked)]:
                    later = plain.ask_taken(tree, state, step)
                    if later is not None and later not in met:
                        met.add(later)
                        ahead.append(later)
        self.assertGreater(min(told.values()), 300)

    def test_done_is_always_possible(self):
        pick = random.Random(234)
        for tree, stand, lot in small_cases(235, 200):
            asked = plain.some_asked(pick, tree, stand, lot)
            for move in asked:
                now = plain.after(tree, stand, move)
                self.assertIsNone(plain.stand_fault(tree, now))
                self.assertTrue(plain.can_go(tree, stand, move))

    def finishes(self, tree, stand, lot, asked, steps):
        """Whether these are steps that are possible one after another, and after which all moves are done."""
        self.assertIs(steps.__class__, tuple)
        left = lot
        for move in asked:
            left = plain.less(left, move)
        state = left, asked, stand
        for step in steps:
            self.assertEqual([step.__class__, len(step)], [tuple, 3])
            state = plain.ask_taken(tree, state, step)
            if state is None:
                return False
        return state[:2] == ((), ())

    def check(self, tree, stand, lot, asked, good):
        gives(self, good, can_finish, tree, stand, lot, asked)
        steps = finishing(tree, stand, lot, asked)
        if good:
            self.assertTrue(self.finishes(tree, stand, lot, asked, steps), (tree, stand, lot, asked, steps))
        else:
            self.assertIsNone(steps)

    def test_finishing(self):
        self.check(TREE, STAND, LOT, (), True)
        self.check(TREE, STAND, LOT, (('c', 'a'),), True)
        self.check(NEAR, BOTH, SWAP, (), False)
        self.check(PAIR, BOTH, COME, (), True)
        self.check(PAIR, BOTH, COME, COME[:1], False)
        self.check(PAIR, BOTH, COME, COME[2:], True)
        # without moves nothing is to be done
        gives(self, (), finishing, TREE, STAND, (), ())
        gives(self, (('done', 'c', 'a'),), finishing, TREE, STAND, LOT[2:], LOT[2:])

    def test_against_a_search(self):
        pick = random.Random(236)
        told = {True: 0, False: 0}
        cases = [*small_cases(237, 400, plain.some_case, plain.SIX[:4], 5),
                 *small_cases(238, 200, plain.some_fitting, plain.SIX[:4], 5)]
        for tree, stand, lot in cases:
            for asked in {(), plain.some_asked(pick, tree, stand, lot), plain.some_asked(pick, tree, stand, lot)}:
                left = lot
                for move in asked:
                    left = plain.less(left, move)
                good = plain.can_finish(tree, (left, asked, stand))
                self.check(tree, stand, lot, asked, good)
                # what point 9 (O7) tells
                now = plain.at_end(tree, stand, asked)
                self.assertEqual(good, fits(tree, stand, lot) and greatest_ring(tree, now, left) == ())
                told[good] += bool(asked)
        self.assertGreater(min(told.values()), 50)

    def test_all_parts_of_small_lots(self):
        moves = list(itertools.permutations(('', 'a', 'b'), 2))
        tree, stand = (('a', '', 2), ('b', '', 1)), (1, 1)
        for many in range(4):
            for lot in itertools.combinations_with_replacement(moves, many):
                if plain.lot_fault(tree, stand, lot) is None:
                    for part in range(many + 1):
                        for asked in set(itertools.combinations(lot, part)):
                            if plain.asked_fault(tree, stand, lot, asked) is None:
                                left = lot
                                for move in asked:
                                    left = plain.less(left, move)
                                self.check(tree, stand, lot, asked, plain.can_finish(tree, (left, asked, stand)))

    def test_consequences(self):
        pick = random.Random(239)
        for tree, stand, lot in small_cases(240, 300, plain.some_case, plain.SIX[:5], 6):
            # nothing asked
            gives(self, all_go(tree, stand, lot), can_finish, tree, stand, lot, ())
            # all asked
            if plain.asked_fault(tree, stand, lot, lot) is None:
                self.check(tree, stand, lot, lot, True)
            # after any step "done"
            asked = plain.some_asked(pick, tree, stand, lot)
            gives(self, True, can_finish, tree, stand, asked, asked)
            if can_finish(tree, stand, lot, asked):
                for move in set(asked):
                    now, rest = plain.after(tree, stand, move), plain.less(lot, move)
                    gives(self, True, can_finish, tree, now, rest, plain.less(asked, move))

    def test_large(self):
        names = plain.MANY_NAMES[:12]
        tree = tuple((name, '', BIG) for name in names)
        lot = tuple(sorted(list(zip(names, [*names[1:], names[0]])) * 2))
        self.check(tree, (BIG,) * 12, lot, (), False)
        self.check(tree, (BIG - 1,) + (BIG,) * 11, lot, (), True)
        self.check(tree, (BIG - 1,) + (BIG,) * 11, lot, ((names[11], names[0]),), True)

    def test_arguments(self):
        asked = (('c', 'a'),)
        takes_arguments(self, held_in, TREE, STAND, LOT, asked, 'top')
        takes_arguments(self, can_ask, TREE, STAND, LOT, asked, ('b', 'c'))
        takes_arguments(self, can_finish, TREE, STAND, LOT, asked)
        takes_arguments(self, finishing, TREE, STAND, LOT, asked)
        for call, more in ((held_in, ('a',)), (can_ask, (('a', 'b'),)), (can_finish, ()), (finishing, ())):
            for wrong in (SWAP, SWAP[::-1], list(()), (('b', 'a'),), (('a', 'b'), ('a', 'b'))):
                refuses(self, NotUsable, {'word': 'asked', 'at': -1}, call, NEAR, BOTH, SWAP, wrong, *more)
                refuses(self, NotUsable, {'word': 'asked', 'at': -1}, call, NEAR, BOTH, SWAP, wrong, *[None for _ in more])
                refuses(self, NotUsable, {'word': 'lot', 'at': -1}, call, NEAR, BOTH, SWAP[::-1], wrong, *more)


if __name__ == '__main__':
    unittest.main()
