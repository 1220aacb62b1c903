"""Points 8, 9 (O2), 66 and 68: class Guarded."""

import random
import unittest

import plain
from support import (BOTH, DEEP, FULL, LOT, NEAR, ODD, STAND, STUCK, SWAP, TREE, Other, parameters, refuses, small_cases)

from roomrings.errors import Barred, InvalidEvent
from roomrings.guarded import Guarded
from roomrings.guarding import let_moves
from roomrings.movings import Moving
from roomrings.rings import greatest_ring

FLAT, MOVES = (('a', '', 1), ('b', '', 1), ('h', '', 2)), (('a', 'h'), ('b', 'h'), ('h', 'b'))
OUTER, WISHES = (('a', 'p', 1), ('b', 'p', 1), ('p', '', 2), ('q', '', 1)), (('', 'p'), ('a', 'q'), ('q', 'b'))


class Guards(unittest.TestCase):

    def bars(self, moving, event, folders):
        """The event is refused by the guard in every way, and nothing changes."""
        before = moving.log(), moving.stand, moving.rest, moving.state()
        self.assertEqual(moving.barred(event), 'ring')
        named = {'go': moving.go, 'in': moving.bring}[event[0]]
        calls = [(named, event[1:]), (moving.apply, (event,)), (moving, (event,)), (moving.tried, (event,)),
                 (moving.do_all, (event,))]
        fields = {'event': event, 'folders': folders}
        for call, args in calls:
            refuses(self, Barred, fields, call, *args)
        refuses(self, Barred, fields, moving.do_all, event, None, keep=True)
        self.assertEqual((moving.log(), moving.stand, moving.rest, moving.state()), before)

    def test_interface(self):
        self.assertEqual(parameters(Guarded), ['tree', 'stand', 'lot'])
        self.assertEqual(Guarded.__bases__, (Moving,))
        for name in ('__init__', 'barred'):
            self.assertIn(name, vars(Guarded))
        self.assertEqual(parameters(Guarded(TREE, STAND, LOT).barred), ['event'])

    def test_examples(self):
        guarded, other = Guarded(FLAT, (1, 1, 1), MOVES), Moving(FLAT, (1, 1, 1), MOVES)
        self.assertEqual([guarded.barred(('go', 'a', 'h')), guarded.go('b', 'h'), guarded.barred(('go', 'a', 'h'))],
                         ['ring', 'going', 'room'])
        self.assertEqual([other.go('a', 'h'), other.ring_now(), other.inner_now(), other.put_out('b', 'h'), other.away],
                         ['ring', ('b', 'h'), (('b', 'h'),), 'going', (('b', 'h'),)])
        refuses(self, Barred, {'event': ('go', 'a', 'h'), 'folders': ('b', 'h')}, Guarded(FLAT, (1, 1, 1), MOVES).go,
                'a', 'h')

    def test_go(self):
        self.bars(Guarded(FLAT, (1, 1, 1), MOVES), ('go', 'a', 'h'), ('b', 'h'))
        self.bars(Guarded(OUTER, (1, 0, 0, 1), WISHES), ('go', '', 'p'), ('p', 'q'))
        moving = Guarded(OUTER, (1, 0, 0, 1), WISHES)
        self.assertEqual([moving.go('q', 'b'), moving.go('a', 'q'), moving.go('', 'p')], ['going', 'going', 'done'])

    def test_in(self):
        # with its file outside b and h are no ring, until another one comes to h
        moving = Guarded(FLAT, (1, 1, 1), MOVES)
        moving.put_out('a', 'h')
        self.bars(moving, ('in', 'a', 'h'), ('b', 'h'))
        moving.do_all(('go', 'b', 'h'), ('go', 'h', 'b'))
        self.assertEqual([moving.barred(('in', 'a', 'h')), moving.bring('a', 'h')], [None, 'done'])

    def test_a_ring_that_was_there_before(self):
        # c has nothing to do with the ring of a and b, but its file may not go as long as there is one
        tree = (('a', '', 1), ('b', '', 1), ('c', '', 2), ('d', '', 1))
        lot = (('a', 'b'), ('b', 'a'), ('c', ''), ('c', 'd'))
        moving = Guarded(tree, (1, 1, 2, 0), lot)
        self.bars(moving, ('go', 'c', ''), ('a', 'b'))
        self.bars(moving, ('go', 'c', 'd'), ('a', 'b'))
        self.assertEqual([moving.barred(('go', 'a', 'b')), moving.state()], ['room', 'ring'])
        # of the greatest ring all folders are told
        moving = Guarded(DEEP + (('z', '', 1),), FULL + (1,), (*SWAP, ('z', '')))
        self.bars(moving, ('go', 'z', ''), ('p', 'q'))

    def test_out_is_never_refused_so(self):
        tree = (('a', '', 1), ('b', '', 1), ('c', '', 1), ('d', '', 1))
        moving = Guarded(tree, (1, 1, 1, 1), (('a', 'b'), ('b', 'a'), ('c', 'd'), ('d', 'c')))
        self.assertEqual([moving.barred(('out', 'a', 'b')), moving.put_out('a', 'b'), moving.ring_now(),
                          moving.barred(('go', 'b', 'a'))], [None, 'ring', ('c', 'd'), 'ring'])
        self.assertEqual([moving.put_out('c', 'd'), moving.go('b', 'a'), moving.go('d', 'c'), moving.bring('a', 'b'),
                          moving.bring('c', 'd')], ['going', 'going', 'going', 'going', 'done'])

    def test_the_reasons_of_every_moving_come_first(self):
        moving = Guarded(NEAR, BOTH, SWAP)
        for event, reason in ((('go', 'a', 'b'), 'room'), (('go', 'a', ''), 'none'), (('in', 'a', 'b'), 'none'),
                              (('go', 'a', 'a'), 'shape'), (None, 'shape')):
            self.assertEqual(moving.barred(event), reason)
            for call in (moving.apply, moving, moving.tried, moving.do_all):
                refuses(self, InvalidEvent, {'event': event, 'reason': reason}, call, event)
        for thing in [*ODD, Other()]:
            self.assertEqual(moving.barred(thing), 'shape')
        moving = Guarded(FLAT, (1, 1, 1), MOVES)
        moving.shut()
        self.assertEqual(moving.barred(('go', 'a', 'h')), 'closed')
        refuses(self, InvalidEvent, {'event': ('go', 'a', 'h'), 'reason': 'closed'}, moving.tried, ('go', 'a', 'h'))

    def test_full_comes_ahead_of_the_guard(self):
        tree, lot = (*FLAT, ('k', '', 60)), tuple(sorted([*MOVES, *[('k', '')] * 41]))
        moving = Guarded(tree, (1, 1, 1, 50), lot)
        moving.do_all(*[('go', 'k', '')] * 39)
        self.assertEqual(moving.barred(('go', 'a', 'h')), 'ring')
        refuses(self, Barred, {'event': ('go', 'a', 'h'), 'folders': ('b', 'h')}, moving.tried, ('go', 'a', 'h'))
        refuses(self, InvalidEvent, {'event': ('go', 'a', 'h'), 'reason': 'full'}, moving.tried, ('go', 'k', ''),
                ('go', 'a', 'h'))
        moving.go('k', '')
        self.assertEqual(moving.barred(('go', 'a', 'h')), 'full')

    def test_several_events_at_once(self):
        bars = {'event': ('go', 'a', 'h'), 'folders': ('b', 'h')}
        events = [('out', 'h', 'b'), ('in', 'h', 'b'), ('go', 'a', 'h'), ('go', 'b', 'h')]
        for more, done in (({}, 0), ({'keep': False}, 0), ({'keep': True}, 1)):
            moving = Guarded(FLAT, (1, 1, 1), MOVES)
            refuses(self, InvalidEvent, {'event': events[1], 'reason': 'room'}, moving.do_all, *events, **more)
            self.assertEqual(len(moving), done)
            moving = Guarded(FLAT, (1, 1, 1), MOVES)
            refuses(self, InvalidEvent, {'event': events[1], 'reason': 'room'}, moving.tried, *events)
        tree, lot = (*FLAT, ('k', '', 1)), (*MOVES, ('k', ''))
        for more, done in (({}, 0), ({'keep': True}, 1)):
            moving = Guarded(tree, (1, 1, 1, 1), lot)
            refuses(self, Barred, bars, moving.tried, ('go', 'k', ''), ('go', 'a', 'h'))
            refuses(self, Barred, bars, moving.do_all, ('go', 'k', ''), ('go', 'a', 'h'), None, **more)
            self.assertEqual([len(moving), moving.tally()], [done, (1, 1)])
        # an event that a ring bars now may be possible behind others
        moving = Guarded(tree, (1, 1, 1, 1), lot)
        self.assertEqual(moving.do_all(('go', 'b', 'h'), ('go', 'h', 'b'), ('go', 'a', 'h')), 3)

    def test_lets_what_the_guard_lets(self):
        for tree, stand, lot in [*small_cases(280, 200), *small_cases(281, 100, plain.some_earlier)]:
            moving = Guarded(tree, stand, lot)
            found = tuple(move for move in sorted(set(lot)) if moving.barred(('go', *move)) is None)
            self.assertEqual(found, let_moves(tree, stand, lot))

    def test_consequences(self):
        """Random events until nothing can be done, by the words of point 68."""
        pick = random.Random(282)
        met = set()
        for tree, stand, lot in [*small_cases(283, 150, plain.some_fitting, plain.SIX[:4], 6),
                                 *small_cases(284, 100, plain.some_stuck, plain.SIX[:5], 6),
                                 *small_cases(285, 60, plain.some_earlier, plain.SIX[:4], 5)]:
            moving, walk = Guarded(tree, stand, lot), plain.Walk(tree, stand, lot, True)
            no_ring = greatest_ring(tree, stand, lot) == ()
            while len(moving) < 12:
                state = moving.state()
                met.add((state, no_ring))
                self.assertFalse(no_ring and state == 'ring')
                events = [('go', *move) for move in moving.left] + [('in', *move) for move in moving.away]
                good = [event for event in events if moving.barred(event) is None]
                outs = [('out', *move) for move in moving.left if '' not in move]
                if state == 'going' and moving.ring_now() == ():
                    self.assertNotEqual(good, [])
                if state == 'ring':
                    self.assertEqual(good, [])
                before = plain.all_rings(tree, moving.stand, moving.rest)
                ahead = [*good, *outs] if pick.random() < 0.5 else good or outs
                if not ahead:
                    self.assertEqual([state, moving.left, moving.away], ['done', (), ()])
                    break
                event = pick.choice(ahead)
                moving.apply(event)
                walk.events.append(event)
                after = plain.all_rings(tree, moving.stand, moving.rest)
                self.assertLessEqual(set(after), set(before))
                self.assertEqual((moving.stand, moving.rest, moving.state()), walk.shown())
        self.assertEqual(met, {('done', True), ('going', True), ('done', False), ('going', False), ('ring', False)})

    def test_always_finishes_without_a_ring(self):
        """If the end fits and there is no ring, whatever the guard lets leads to the end."""
        pick = random.Random(286)
        for tree, stand, lot in small_cases(287, 200, plain.some_fitting, plain.SIX[:5], 6):
            if greatest_ring(tree, stand, lot) == ():
                moving = Guarded(tree, stand, lot)
                while moving.state() != 'done':
                    moving.go(*pick.choice(let_moves(tree, moving.stand, moving.left)))
                self.assertEqual(moving.stand, plain.at_end(tree, stand, lot))

    def test_ends_that_do_not_fit(self):
        pick = random.Random(288)
        for made in (Moving, Guarded):
            for tree, stand, lot in small_cases(289, 200):
                if plain.crowded(tree, plain.at_end(tree, stand, lot)):
                    moving, walk = made(tree, stand, lot), plain.Walk(tree, stand, lot)
                    for _ in range(8):
                        self.assertEqual(moving.state(), 'end')
                        event = plain.some_event(pick, walk)
                        if moving.barred(event) is None:
                            self.assertEqual(moving.apply(event), 'end')
                            walk.events.append(event)

    def test_twenty_four_moves_that_are_all_put_out(self):
        tree = (('a', '', 12), ('b', '', 12))
        lot = tuple(sorted(SWAP * 12))
        for made in (Moving, Guarded):
            moving = made(tree, (12, 12), lot)
            self.assertEqual([moving.state(), moving.do_all(*[('out', *move) for move in lot]), moving.state(), moving.stand],
                             ['ring', 24, 'going', (0, 0)])
            back = [('in', *move) for move in lot]
            self.assertEqual([moving.do_all(*back[:16]), len(moving), moving.state()], [16, 40, 'going'])
            refuses(self, InvalidEvent, {'event': back[16], 'reason': 'full'}, moving.apply, back[16])
            self.assertEqual([moving.barred(event) for event in back[16:]], ['full'] * 8)

    def test_stuck(self):
        moving = Guarded(STUCK, STAND, LOT)
        self.assertEqual([moving.barred(('go', *move)) for move in LOT], ['room', 'room', 'room'])
        self.assertEqual([moving.put_out('c', 'a'), moving.go('b', 'c'), moving.go('a', 'b'), moving.bring('c', 'a')],
                         ['going', 'going', 'going', 'done'])


if __name__ == '__main__':
    unittest.main()
