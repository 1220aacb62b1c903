"""Points 67, 68, 69 and 72: moved_through, replayed."""

import random
import unittest

import plain
from support import (BOTH, LOT, NEAR, ODD, STAND, SWAP, TREE, Other, gives, parameters, refuses, shown, small_cases)

from roomrings.errors import Barred, InvalidEvent, NotUsable
from roomrings.guarded import Guarded
from roomrings.movings import Moving
from roomrings.orders import Order
from roomrings.replaying import replayed
from roomrings.through import moved_through

FLAT, MOVES = (('a', '', 1), ('b', '', 1), ('h', '', 2)), (('a', 'h'), ('b', 'h'), ('h', 'b'))
HEAD = ('moving', TREE, STAND, LOT)
ORDER = (('go', 'c', 'a'), ('go', 'b', 'c'), ('go', 'a', 'b'))


class Watched(Moving):
    """A moving that remembers how it was used."""

    def __init__(self, tree, stand, lot):
        super().__init__(tree, stand, lot)
        self.told = []

    def apply(self, event):
        self.told.append(event)
        return super().apply(event)

    def __enter__(self):
        self.told.append('enter')
        return super().__enter__()

    def __exit__(self, *told):
        self.told.append('leave')
        return super().__exit__(*told)


class Through(unittest.TestCase):

    def test_parameters(self):
        self.assertEqual(parameters(moved_through), ['moving', 'events'])

    def test_examples(self):
        guarded = Guarded(FLAT, (1, 1, 1), MOVES)
        guarded.go('b', 'h')
        self.assertEqual([len(moved_through(guarded, (('go', 'h', 'b'), ('go', 'a', 'h')))), guarded.state(),
                          guarded.is_shut], [4, 'done', True])

    def test_ordinary(self):
        for made in (Moving, Guarded):
            moving = made(TREE, STAND, LOT)
            log = moved_through(moving, ORDER)
            self.assertEqual(repr(log), repr((HEAD, *ORDER)))
            self.assertEqual([moving.is_shut, moving.state(), moving.tally(), len(moving)], [True, 'done', (3, 3), 3])
            moving = made(TREE, STAND, LOT)
            self.assertEqual(moved_through(events=ORDER[:1], moving=moving), (HEAD, ORDER[0]))
            self.assertEqual([moving.is_shut, moving.state()], [True, 'going'])
            moving = made(TREE, STAND, LOT)
            self.assertEqual([moved_through(moving, ()), moving.is_shut, moving.tally()], [(HEAD,), True, (0, 0)])

    def test_as_long_as_it_is_not_done(self):
        # what stands behind the last event that was needed is not asked for
        moving = Moving(TREE, STAND, LOT)
        self.assertEqual(moved_through(moving, (*ORDER, ('go', 'c', 'a'), ('in', 'x', 'y'))), (HEAD, *ORDER))
        self.assertEqual(moving.tally(), (3, 3))

    def test_done_at_first(self):
        for moving in (Moving(TREE, STAND, ()), Guarded(TREE, STAND, ())):
            self.assertEqual(moved_through(moving, (('go', 'a', 'b'),)), (('moving', TREE, STAND, ()),))
            self.assertEqual([moving.is_shut, moving.tally()], [True, (0, 0)])
            # also one that is shut
            self.assertEqual(moved_through(moving, ORDER), (('moving', TREE, STAND, ()),))

    def test_an_event_that_is_refused(self):
        for k in range(3):
            moving = Moving(TREE, STAND, LOT)
            events = (*ORDER[:k], ('out', 'a', ''), *ORDER[k:])
            refuses(self, InvalidEvent, {'event': ('out', 'a', ''), 'reason': 'none'}, moved_through, moving, events)
            self.assertEqual([moving.is_shut, moving.log(), moving.tally()], [True, (HEAD, *ORDER[:k]), (k + 1, k + 1)])
        guarded = Guarded(FLAT, (1, 1, 1), MOVES)
        refuses(self, Barred, {'event': ('go', 'a', 'h'), 'folders': ('b', 'h')}, moved_through, guarded, (('go', 'a', 'h'),))
        self.assertEqual([guarded.is_shut, len(guarded), guarded.tally()], [True, 0, (1, 1)])

    def test_a_moving_that_is_shut(self):
        moving = Moving(TREE, STAND, LOT)
        moving.shut()
        refuses(self, InvalidEvent, {'event': ORDER[0], 'reason': 'closed'}, moved_through, moving, ORDER)
        self.assertEqual(moved_through(moving, ()), (HEAD,))
        self.assertEqual([moving.is_shut, moving.tally()], [True, (2, 2)])

    def test_more_than_forty_events(self):
        moving = Moving((('a', '', 60), ('b', '', 60)), (50, 0), (('a', 'b'),) * 50)
        refuses(self, InvalidEvent, {'event': ('go', 'a', 'b'), 'reason': 'full'}, moved_through, moving,
                (('go', 'a', 'b'),) * 41)
        self.assertEqual([len(moving), moving.is_shut], [40, True])

    def test_it_calls_apply_in_a_with_statement(self):
        moving = Watched(TREE, STAND, LOT)
        moved_through(moving, (*ORDER, ORDER[0]))
        self.assertEqual(moving.told, ['enter', *ORDER, 'leave'])
        moving = Watched(TREE, STAND, LOT)
        refuses(self, InvalidEvent, {'event': ORDER[1], 'reason': 'room'}, moved_through, moving, ORDER[1:])
        self.assertEqual(moving.told, ['enter', ORDER[1], 'leave'])

    def test_wrong_values(self):
        for thing in [*ODD, Other(), Moving, Order(TREE, STAND), (HEAD,)]:
            refuses(self, NotUsable, {'word': 'moving', 'at': -1}, moved_through, thing, ORDER)
            refuses(self, NotUsable, {'word': 'moving', 'at': -1}, moved_through, events=None, moving=thing)
        moving = Moving(TREE, STAND, LOT)
        for thing in [*ODD, Other(), list(ORDER), (*ORDER, None), (*ORDER, ('go', 'a', 'a')), (['go', 'c', 'a'],), moving,
                      (('undo',),), (*ORDER, list(ORDER[0]))]:
            if not (thing.__class__ is tuple and all(plain.is_event(event) for event in thing)):
                refuses(self, NotUsable, {'word': 'events', 'at': -1}, moved_through, moving, thing)
                # nothing was applied, and it is not shut
                self.assertEqual([moving.is_shut, len(moving), moving.tally()], [False, 0, (0, 0)])

    def test_against_a_walk(self):
        pick = random.Random(290)
        told = []
        for tree, stand, lot in [*small_cases(291, 200, plain.some_case, plain.SIX[:4], 5),
                                 *small_cases(292, 100, plain.some_earlier, plain.SIX[:4], 5)]:
            for made in (Moving, Guarded):
                walk = plain.Walk(tree, stand, lot, made is Guarded)
                events = ()
                for _ in range(6):
                    event = plain.some_event(pick, walk)
                    why = walk.reason(event)
                    if why is None:
                        walk.events.append(event)
                    if why is None or why == 'ring' or pick.random() < 0.1:
                        events = (*events, event)
                walk.events.clear()
                why, moving = None, made(tree, stand, lot)
                for event in events:
                    why = 'done' if walk.shown()[2] == 'done' else walk.reason(event)
                    if why is not None:
                        break
                    walk.events.append(event)
                if why in (None, 'done'):
                    self.assertEqual(repr(moved_through(moving, events)), repr(walk.log()))
                elif why == 'ring':
                    refuses(self, Barred, {'event': event, 'folders': walk.ring(event)}, moved_through, moving, events)
                else:
                    refuses(self, InvalidEvent, {'event': event, 'reason': why}, moved_through, moving, events)
                self.assertEqual([moving.log(), moving.is_shut], [walk.log(), True])
                told.append(why)
        for why in (None, 'done', 'none', 'room', 'ring'):
            self.assertGreater(told.count(why), 3, why)


class Replaying(unittest.TestCase):

    def test_parameters(self):
        self.assertEqual(parameters(replayed), ['log'])

    def test_ordinary(self):
        for events in ((), ORDER[:1], ORDER, (('out', 'a', 'b'), ('go', 'c', 'a'))):
            log = (HEAD, *events)
            before = shown(log)
            moving = replayed(log=log)
            self.assertIs(moving.__class__, Moving)
            self.assertEqual([moving.log(), moving.is_shut, moving.tally(), len(moving)], [log, False, (0, 0), len(events)])
            self.assertEqual(shown(log), before)
            self.assertIsNot(replayed(log), replayed(log))
        moving = replayed((HEAD, *ORDER[:1]))
        self.assertEqual([moving.go('b', 'c'), moving.undo(), moving.undo(), moving.tally()],
                         ['going', ORDER[1], ORDER[0], (3, 3)])

    def test_events_that_are_refused(self):
        refuses(self, InvalidEvent, {'event': ('go', 'a', 'b'), 'reason': 'room'}, replayed, (HEAD, ('go', 'a', 'b')))
        refuses(self, InvalidEvent, {'event': ('go', 'x', 'y'), 'reason': 'none'}, replayed,
                (HEAD, *ORDER[:2], ('go', 'x', 'y'), ('go', 'c', '')))
        refuses(self, InvalidEvent, {'event': ('in', 'c', 'a'), 'reason': 'none'}, replayed, (HEAD, ('in', 'c', 'a')))
        wide = ('moving', (('a', '', 60), ('b', '', 60)), (50, 0), (('a', 'b'),) * 50)
        self.assertEqual(len(replayed((wide, *[('go', 'a', 'b')] * 40))), 40)
        refuses(self, InvalidEvent, {'event': ('go', 'a', 'b'), 'reason': 'full'}, replayed, (wide, *[('go', 'a', 'b')] * 41))

    def test_no_logs(self):
        moving = Moving(TREE, STAND, LOT)
        for thing in [*ODD, Other(), moving, HEAD, [HEAD], (HEAD, None), (HEAD, ('go', 'a', 'a')), (HEAD, ('undo',)),
                      (('moving', TREE, STAND, LOT[::-1]),), (('moving', TREE, (2, 1, 1, 1), LOT),), (list(HEAD),),
                      (('movings', TREE, STAND, LOT),), (HEAD, HEAD)]:
            refuses(self, NotUsable, {'word': 'log', 'at': -1}, replayed, thing)
            refuses(self, NotUsable, {'word': 'log', 'at': -1}, replayed, log=thing)
        # what is no log comes ahead of what is refused
        refuses(self, NotUsable, {'word': 'log', 'at': -1}, replayed, (HEAD, ('go', 'a', 'b'), None))

    def test_consequences(self):
        pick = random.Random(293)
        for tree, stand, lot in [*small_cases(294, 150, plain.some_case, plain.SIX[:4], 6),
                                 *small_cases(295, 60, plain.some_stuck, plain.SIX[:5], 6)]:
            for made in (Moving, Guarded):
                moving, walk = made(tree, stand, lot), plain.Walk(tree, stand, lot)
                for _ in range(8):
                    event = plain.some_event(pick, walk)
                    if moving.barred(event) is None:
                        moving.apply(event)
                        walk.events.append(event)
                    elif walk.events and pick.random() < 0.2:
                        self.assertEqual(moving.undo(), walk.events.pop())
                again = replayed(moving.log())
                self.assertTrue(again == moving and moving == again)
                self.assertEqual([again.stand, again.left, again.away, again.state(), again.tally()],
                                 [moving.stand, moving.left, moving.away, moving.state(), (0, 0)])
                if made is Guarded:
                    other = Guarded(tree, stand, lot)
                    self.assertEqual(other.do_all(*moving.log()[1:]), len(moving))
                    self.assertTrue(other == moving)
                moving.shut()
                self.assertFalse(again == moving)
                self.assertIs(replayed(moving.log()).is_shut, False)

    def test_logs_of_events_that_a_guard_would_refuse(self):
        log = (('moving', FLAT, (1, 1, 1), MOVES), ('go', 'a', 'h'))
        self.assertEqual([replayed(log).state(), replayed(log).__class__], ['ring', Moving])
        log = (('moving', NEAR, BOTH, SWAP), ('out', 'a', 'b'), ('go', 'b', 'a'))
        self.assertTrue(replayed(log) == replayed(log))


if __name__ == '__main__':
    unittest.main()
