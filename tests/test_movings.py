"""Points 5, 6, 7, 10, 60 to 65 and 68: class Moving."""

import itertools
import random
import unittest

import plain
from support import (BIG, BOTH, DEEP, FULL, LATE, LOT, NEAR, ODD, STAND, STUCK, SWAP, TREE, Other, Told, by_name_turned,
                     fields_of, gives, parameters, refuses, shown, small_cases)

from roomrings.errors import Barred, InvalidEvent, MovingError, NothingToUndo, NotUsable
from roomrings.guarded import Guarded
from roomrings.movings import Moving
from roomrings.orders import Order
from roomrings.rings import inner_rings
from roomrings.shelves import Shelf

WIDE = (('a', '', 60), ('b', '', 60))
OFTEN = (('a', 'b'),) * 50
ALWAYS = [('go', 'a', 'b')] * 50


def kept(moving):
    """All that is told of a moving, but for what tally tells."""
    return (moving.tree, moving.stand, moving.left, moving.away, moving.rest, moving.is_shut, moving.state(),
            moving.ring_now(), moving.inner_now(), moving.log(), len(moving))


def apply_each(moving, event):
    """The ways to apply an event."""
    calls = [lambda: moving.apply(event), lambda: moving(event), lambda: moving.do_all(event),
             lambda: moving.do_all(event, keep=True), lambda: moving.tried(event)]
    if isinstance(event, tuple) and len(event) == 3 and event[0] in ('go', 'out', 'in'):
        named = {'go': moving.go, 'out': moving.put_out, 'in': moving.bring}[event[0]]
        calls.append(lambda: named(*event[1:]))
        calls.append(lambda: named(target=event[2], source=event[1]))
    return calls


class Compared(unittest.TestCase):
    """What movings tell, against a walk that is made anew from the events each time."""

    def same(self, moving, walk):
        left, away, stand = walk.course()
        rest = plain.rest_of(left, away)
        rings = plain.all_rings(walk.tree, stand, rest)
        worth = (walk.tree, stand, left, away, rest, walk.is_shut, plain.state_of(walk.tree, stand, rest),
                 plain.greatest(walk.tree, rings), plain.inner(walk.tree, rings), walk.log(), len(walk.events))
        self.assertEqual(repr(kept(moving)), repr(worth))
        self.assertEqual(moving.tally(), (walk.calls, walk.calls))
        self.assertEqual(inner_rings(walk.tree, stand, rest), moving.inner_now())

    def raises(self, walk, found, events, call, *args, **more):
        """The call raises the error of the first of the events that is refused."""
        k, why = found
        if why == 'ring':
            fields = {'event': events[k], 'folders': walk.ring(*events[:k + 1])}
            refuses(self, Barred, fields, call, *args, **more)
        else:
            refuses(self, InvalidEvent, {'event': events[k], 'reason': why}, call, *args, **more)
        return why

    def one(self, moving, walk, event, way):
        """Applies one event in one of the ways."""
        before = shown(event)
        found = walk.refused([event])
        self.assertEqual(repr(moving.barred(event)), repr(found and found[1]))
        calls = [moving.apply, moving]
        args = (event,)
        if plain.is_event(event):
            calls.append({'go': moving.go, 'out': moving.put_out, 'in': moving.bring}[event[0]])
            if way % 3 == 2:
                args = event[1:]
        call = calls[way % len(calls)]
        walk.calls += 1
        if found:
            self.raises(walk, found, [event], call, *args)
        else:
            walk.events.append(event)
            gives_state = call(*args)
            self.assertEqual([gives_state, gives_state.__class__], [walk.shown()[2], str])
        self.assertEqual(shown(event), before)
        return found and found[1]

    def several(self, moving, walk, events, way):
        """Tries events, and applies them at once."""
        found = walk.refused(events)
        if found:
            self.raises(walk, found, events, moving.tried, *events)
        else:
            self.assertEqual(repr(moving.tried(*events)), repr(walk.shown(*events)))
        self.same(moving, walk)
        if way == 0:
            return
        more = [{}, {'keep': False}, {'keep': True}][way - 1]
        walk.calls += 1
        if found:
            self.raises(walk, found, events, moving.do_all, *events, **more)
            if way == 3:
                walk.events += events[:found[0]]
        else:
            self.assertEqual(repr(moving.do_all(*events, **more)), repr(len(events)))
            walk.events += events

    def undo(self, moving, walk):
        walk.calls += 1
        if walk.is_shut:
            refuses(self, InvalidEvent, {'event': ('undo',), 'reason': 'closed'}, moving.undo)
        elif walk.events:
            self.assertEqual(moving.undo(), walk.events.pop())
        else:
            refuses(self, NothingToUndo, {'steps': 0}, moving.undo)

    def walk_about(self, pick, made, case, many):
        """Random calls, each looked at; returns the reasons that were met, and the states."""
        walk, moving = plain.Walk(*case, is_guarded=made is Guarded), made(*case)
        met = set()
        self.same(moving, walk)
        for _ in range(many):
            way = pick.random()
            if way < 0.6:
                met.add(self.one(moving, walk, plain.some_event(pick, walk, ODD), pick.randrange(3)))
            elif way < 0.8:
                events = [plain.some_event(pick, walk, ODD) for _ in range(pick.randrange(4))]
                self.several(moving, walk, events, pick.randrange(4))
            elif way < 0.97:
                self.undo(moving, walk)
            else:
                walk.calls += 1
                walk.is_shut = True
                self.assertIs(moving.shut(), None)
            self.same(moving, walk)
            met.add(moving.state())
        return met

    def test_movings(self):
        pick = random.Random(270)
        met = set()
        for case in [*small_cases(271, 150, plain.some_case, plain.SIX[:4], 6),
                     *small_cases(272, 80, plain.some_stuck, plain.SIX[:5], 6)]:
            met |= self.walk_about(pick, Moving, case, 25)
        self.assertEqual(met, {None, 'shape', 'closed', 'none', 'room', 'done', 'end', 'ring', 'going'})

    def test_guarded_movings(self):
        pick = random.Random(273)
        met = set()
        for case in [*small_cases(274, 150, plain.some_case, plain.SIX[:4], 6),
                     *small_cases(275, 80, plain.some_stuck, plain.SIX[:5], 6),
                     *small_cases(276, 60, plain.some_earlier, plain.SIX[:4], 5)]:
            met |= self.walk_about(pick, Guarded, case, 25)
        self.assertEqual(met, {None, 'shape', 'closed', 'none', 'room', 'ring', 'done', 'end', 'going'})

    def test_up_to_the_fortieth_event(self):
        pick = random.Random(277)
        lot = tuple(sorted(list(itertools.permutations(('a', 'b', ''), 2)) * 12))
        for made in (Moving, Guarded):
            for _ in range(3):
                case = (('a', '', 30), ('b', '', 26)), (25, 24), lot
                walk, moving = plain.Walk(*case, is_guarded=made is Guarded), made(*case)
                met = []
                while met.count('full') < 3:
                    met.append(self.one(moving, walk, plain.some_event(pick, walk, ODD), pick.randrange(3)))
                    self.several(moving, walk, [plain.some_event(pick, walk) for _ in range(3)], pick.choice((0, 0, 3)))
                self.assertEqual(len(walk.events), 40)
                self.same(moving, walk)
                while walk.events:
                    self.undo(moving, walk)
                self.undo(moving, walk)
                self.same(moving, walk)


class Movings(unittest.TestCase):

    def setUp(self):
        self.moving = Moving(TREE, STAND, LOT)

    def refused(self, moving, event, reason):
        """The event is refused for this reason in every way, and nothing changes but the counts."""
        before, calls = kept(moving), moving.tally()[0]
        self.assertEqual(moving.barred(event), reason)
        self.assertEqual(moving.barred(event=event), reason)
        for call in apply_each(moving, event):
            refuses(self, InvalidEvent, {'event': event, 'reason': reason}, call)
            self.assertEqual(kept(moving), before)
        # tried and barred count nothing
        calls += len(apply_each(moving, event)) - 1
        self.assertEqual(moving.tally(), (calls, calls))

    def test_interface(self):
        self.assertEqual(parameters(Moving), ['tree', 'stand', 'lot'])
        moving = self.moving
        for call, names in ((moving.go, ['source', 'target']), (moving.put_out, ['source', 'target']),
                            (moving.bring, ['source', 'target']), (moving.apply, ['event']), (moving, ['event']),
                            (moving.barred, ['event']), (moving.tried, ['*events']), (moving.undo, []),
                            (moving.do_all, ['*events', 'keep=False']), (moving.tally, []), (moving.log, []),
                            (moving.shut, []), (moving.state, []), (moving.ring_now, []), (moving.inner_now, [])):
            self.assertEqual(parameters(call), names)
        for name in ('__init__', 'state', 'ring_now', 'inner_now', 'go', 'put_out', 'bring', 'apply', '__call__', 'barred',
                     'tried', 'undo', 'do_all', 'tally', 'log', 'shut', '__enter__', '__exit__', '__contains__', '__len__',
                     '__eq__', 'tree', 'stand', 'left', 'away', 'rest', 'is_shut', 'MOST'):
            self.assertIn(name, vars(Moving))
        for name in ('tree', 'stand', 'left', 'away', 'rest', 'is_shut'):
            self.assertIsInstance(vars(Moving)[name], property)
        self.assertEqual([Moving.MOST, moving.MOST, Guarded.MOST], [40, 40, 40])

    def test_examples(self):
        moving = self.moving
        self.assertEqual([moving.state(), moving.barred(('go', 'a', 'b')), moving.go('c', 'a'), moving.put_out('a', 'b'),
                          moving.stand, moving.rest],
                         ['going', 'room', 'going', 'going', (1, 1, 0, 0), (('', 'b'), ('b', 'c'))])
        self.assertEqual([moving.barred(('in', 'a', 'b')), moving.tried(('go', 'b', 'c'), ('in', 'a', 'b')),
                          ('a', 'b') in moving, len(moving), moving.undo()],
                         ['room', ((1, 1, 1, 0), (), 'done'), True, 2, ('out', 'a', 'b')])

    def test_at_the_beginning(self):
        moving = self.moving
        self.assertEqual([moving.tree, moving.stand, moving.left, moving.away, moving.rest, moving.is_shut, moving.state(),
                          moving.ring_now(), moving.inner_now(), moving.log(), moving.tally(), len(moving)],
                         [TREE, STAND, LOT, (), LOT, False, 'going', (), (), (('moving', TREE, STAND, LOT),), (0, 0), 0])

    def test_states(self):
        self.assertEqual(Moving(TREE, STAND, ()).state(), 'done')
        self.assertEqual(Moving(NEAR, BOTH, SWAP).state(), 'ring')
        self.assertEqual(Moving(NEAR, BOTH, LATE).state(), 'end')
        # the end comes ahead of the ring
        tree = (('a', '', 1), ('b', '', 1), ('c', '', 0))
        moving = Moving(tree, (1, 1, 0), (('', 'c'), *SWAP))
        self.assertEqual([moving.state(), moving.ring_now()], ['end', ('a', 'b')])
        self.assertEqual([Moving(DEEP, FULL, SWAP).ring_now(), Moving(DEEP, FULL, SWAP).inner_now()],
                         [('p', 'q'), (('a', 'b'),)])
        moving = Moving(STUCK, STAND, LOT)
        self.assertEqual([moving.state(), moving.put_out('c', 'a'), moving.go('b', 'c'), moving.go('a', 'b'),
                          moving.bring('c', 'a')], ['ring', 'going', 'going', 'going', 'done'])

    def test_rest_is_a_lot_of_the_stand(self):
        pick = random.Random(278)
        for tree, stand, lot in small_cases(279, 150, plain.some_case, plain.SIX[:4], 6):
            moving, walk = Moving(tree, stand, lot), plain.Walk(tree, stand, lot)
            for _ in range(10):
                event = plain.some_event(pick, walk)
                if moving.barred(event) is None:
                    moving.apply(event)
                    walk.events.append(event)
                self.assertIsNone(plain.lot_fault(tree, moving.stand, moving.rest))
                self.assertIsNone(plain.lot_fault(tree, moving.stand, moving.left))
                # the end of rest is that of the lot
                self.assertEqual(plain.at_end(tree, moving.stand, moving.rest), plain.at_end(tree, stand, lot))

    def test_in_enters_folders_around_its_source_too(self):
        tree, lot = (('a', 'p', 2), ('b', 'p', 2), ('p', '', 2)), (('', 'b'), ('a', 'b'), ('b', ''))
        moving = Moving(tree, (1, 1, 0), lot)
        moving.put_out('a', 'b')
        moving.go('', 'b')
        self.assertEqual([moving.barred(('in', 'a', 'b')), moving.away, moving.rest],
                         ['room', (('a', 'b'),), (('', 'b'), ('b', ''))])
        moving.go('b', '')
        self.assertEqual([moving.bring('a', 'b'), moving.stand, moving.away], ['done', (0, 2, 0), ()])

    def test_moves_that_are_away_are_sorted(self):
        moving = Moving((('a', '', 9), ('b', '', 9)), (5, 5), (('a', 'b'), ('a', 'b'), ('b', 'a'), ('b', 'a')))
        for source, target in ('ba', 'ab', 'ba', 'ab'):
            moving.put_out(source, target)
        self.assertEqual([moving.away, moving.left, moving.rest],
                         [(('a', 'b'), ('a', 'b'), ('b', 'a'), ('b', 'a')), (), (('', 'a'), ('', 'a'), ('', 'b'), ('', 'b'))])

    def test_reasons_alone(self):
        moving = self.moving
        for thing in [*ODD, Other(), ('undo',), ('go', 'a'), ['go', 'a', 'b'], ('go', 'a', 'a'), ('GO', 'a', 'b'), moving]:
            if not plain.is_event(thing):
                self.refused(moving, thing, 'shape')
        for event in (('go', 'a', 'c'), ('go', 'x', 'y'), ('out', 'a', 'top'), ('in', 'a', 'b'), ('go', '', 'a')):
            self.refused(moving, event, 'none')
        for event in (('go', 'a', 'b'), ('go', 'b', 'c')):
            self.refused(moving, event, 'room')
        closed = Moving(TREE, STAND, LOT)
        closed.shut()
        for event in (('go', 'c', 'a'), ('out', 'c', 'a')):
            self.refused(closed, event, 'closed')
        full = Moving(WIDE, (50, 0), OFTEN)
        full.do_all(*ALWAYS[:40])
        for event in (('go', 'a', 'b'), ('out', 'a', 'b')):
            self.refused(full, event, 'full')

    def test_out_of_a_move_with_a_spot_outside(self):
        moving = Moving(TREE, STAND, (('', 'a'), ('b', '')))
        self.refused(moving, ('out', '', 'a'), 'none')
        self.refused(moving, ('out', 'b', ''), 'none')
        self.assertEqual([moving.barred(('go', '', 'a')), moving.barred(('go', 'b', ''))], [None, None])

    def test_two_reasons_at_once(self):
        # by shape, closed, full, none and room
        closed = Moving(TREE, STAND, LOT)
        closed.shut()
        for thing in (None, ('go', 'a', 'a'), ('undo',)):
            self.refused(closed, thing, 'shape')
        for event in (('go', 'a', 'c'), ('go', 'a', 'b'), ('in', 'a', 'b')):
            self.refused(closed, event, 'closed')
        full = Moving((('a', '', 60), ('b', '', 40)), (50, 0), OFTEN)
        full.do_all(*ALWAYS[:40])
        self.refused(full, None, 'shape')
        for event in (('go', 'b', 'a'), ('go', 'a', 'b'), ('in', 'a', 'b')):
            self.refused(full, event, 'full')
        full.shut()
        self.refused(full, None, 'shape')
        for event in (('go', 'b', 'a'), ('go', 'a', 'b')):
            self.refused(full, event, 'closed')
        # into what is full, but no move of the lot
        self.refused(self.moving, ('go', 'a', 'c'), 'none')
        self.refused(self.moving, ('in', 'c', 'b'), 'none')

    def test_the_fortieth_event(self):
        moving = Moving(WIDE, (50, 0), OFTEN)
        for k in range(40):
            self.assertEqual([moving.barred(('go', 'a', 'b')), len(moving)], [None, k])
            self.assertEqual(moving.go('a', 'b'), 'going')
        self.refused(moving, ('go', 'a', 'b'), 'full')
        self.assertEqual([len(moving), len(moving.log()), moving.undo(), moving.barred(('go', 'a', 'b')),
                          moving.go('a', 'b'), moving.barred(('go', 'a', 'b'))],
                         [40, 41, ('go', 'a', 'b'), None, 'going', 'full'])

    def test_the_fortieth_event_within_one_call(self):
        full = {'event': ('go', 'a', 'b'), 'reason': 'full'}
        for ahead in (0, 1, 39, 40):
            moving = Moving(WIDE, (50, 0), OFTEN)
            self.assertEqual(moving.do_all(*ALWAYS[:ahead]), ahead)
            before = kept(moving)
            self.assertEqual(moving.tried(*ALWAYS[ahead:40]), ((10, 40), OFTEN[:10], 'going'))
            refuses(self, InvalidEvent, full, moving.tried, *ALWAYS[ahead:41])
            refuses(self, InvalidEvent, full, moving.do_all, *ALWAYS[ahead:41])
            self.assertEqual(kept(moving), before)
            # the one after it is told even where the one behind it has no shape
            refuses(self, InvalidEvent, full, moving.tried, *ALWAYS[ahead:41], None)
            refuses(self, InvalidEvent, {'event': None, 'reason': 'shape'}, moving.tried, *ALWAYS[ahead:40], None)
            refuses(self, InvalidEvent, full, moving.do_all, *ALWAYS[ahead:42], keep=True)
            self.assertEqual([len(moving), moving.stand], [40, (10, 40)])

    def test_tried(self):
        moving = self.moving
        before = kept(moving)
        self.assertEqual(moving.tried(), (STAND, LOT, 'going'))
        self.assertEqual(moving.tried(('go', 'c', 'a')), ((2, 1, 0, 0), LOT[:2], 'going'))
        self.assertEqual(moving.tried(*[('out', *move) for move in LOT]),
                         ((0, 0, 0, 0), (('', 'a'), ('', 'b'), ('', 'c')), 'going'))
        for events, k, reason in (((('go', 'c', 'a'), ('go', 'c', 'a')), 1, 'none'), ((None, ('go', 'c', 'a')), 0, 'shape'),
                                  ((('go', 'c', 'a'), ('go', 'a', 'b'), None), 1, 'room'), (([],), 0, 'shape')):
            refuses(self, InvalidEvent, {'event': events[k], 'reason': reason}, moving.tried, *events)
        self.assertEqual([kept(moving), moving.tally()], [before, (0, 0)])
        moving.shut()
        self.assertEqual(moving.tried(), (STAND, LOT, 'going'))
        refuses(self, InvalidEvent, {'event': ('go', 'c', 'a'), 'reason': 'closed'}, moving.tried, ('go', 'c', 'a'))
        refuses(self, InvalidEvent, {'event': 7, 'reason': 'shape'}, moving.tried, 7)

    def test_do_all(self):
        order = [('go', 'c', 'a'), ('go', 'b', 'c'), ('go', 'a', 'b')]
        wrong = [*order[:2], ('go', 'b', 'c'), order[2]]
        for more in ({}, {'keep': False}, {'keep': True}):
            moving = Moving(TREE, STAND, LOT)
            gives(self, 0, moving.do_all, **more)
            gives(self, 3, moving.do_all, *order, **more)
            self.assertEqual([moving.state(), len(moving), moving.tally()], ['done', 3, (2, 2)])
            moving = Moving(TREE, STAND, LOT)
            refuses(self, InvalidEvent, {'event': ('go', 'b', 'c'), 'reason': 'none'}, moving.do_all, *wrong, **more)
            done = 2 if more == {'keep': True} else 0
            self.assertEqual([len(moving), moving.left, moving.log()[1:], moving.tally()],
                             [done, LOT[:1] if done else LOT, tuple(order[:done]), (1, 1)])

    def test_do_all_keep(self):
        for keep in [*ODD, Other()]:
            if keep is not True and keep is not False:
                refuses(self, NotUsable, {'word': 'keep', 'at': keep}, self.moving.do_all, ('go', 'c', 'a'), keep=keep)
                # it is looked at before all else
                refuses(self, NotUsable, {'word': 'keep', 'at': keep}, self.moving.do_all, None, keep=keep)
                refuses(self, NotUsable, {'word': 'keep', 'at': keep}, self.moving.do_all, keep=keep)
        self.assertEqual(len(self.moving), 0)
        calls = self.moving.tally()[0]
        self.assertEqual(calls, 3 * len([keep for keep in [*ODD, Other()] if keep is not True and keep is not False]))
        self.moving.shut()
        refuses(self, NotUsable, {'word': 'keep', 'at': 0}, self.moving.do_all, ('go', 'c', 'a'), keep=0)
        refuses(self, InvalidEvent, {'event': True, 'reason': 'shape'}, self.moving.do_all, True)

    def test_undo_to_the_beginning(self):
        moving = self.moving
        told = [kept(moving)]
        events = [('go', 'c', 'a'), ('out', 'a', 'b'), ('go', 'b', 'c'), ('in', 'a', 'b')]
        for event in events:
            moving.apply(event)
            told.append(kept(moving))
        self.assertEqual(moving.state(), 'done')
        for k in (3, 2, 1, 0):
            self.assertEqual(moving.undo(), events[k])
            self.assertEqual(kept(moving), told[k])
        for _ in range(2):
            refuses(self, NothingToUndo, {'steps': 0}, moving.undo)
        self.assertEqual([kept(moving), moving.tally()], [told[0], (10, 10)])
        moving.apply(events[0])
        self.assertEqual(moving.log(), (('moving', TREE, STAND, LOT), events[0]))

    def test_undo_of_a_moving_that_is_shut(self):
        for moving in (self.moving, Moving(TREE, STAND, LOT)):
            if moving is not self.moving:
                moving.go('c', 'a')
            moving.shut()
            before, calls = kept(moving), moving.tally()[0]
            refuses(self, InvalidEvent, {'event': ('undo',), 'reason': 'closed'}, moving.undo)
            self.assertEqual([kept(moving), moving.tally()], [before, (calls + 1, calls + 1)])

    def test_tally(self):
        moving = self.moving
        many = 0
        for count, call in ((1, lambda: moving.go('c', 'a')), (1, lambda: moving.go('c', 'a')),
                            (1, lambda: moving.put_out('a', 'b')), (1, lambda: moving.put_out(None, [])),
                            (1, lambda: moving.bring('a', 'b')), (1, lambda: moving.bring('x', 'x')),
                            (1, lambda: moving.apply(('go', 'b', 'c'))), (1, lambda: moving.apply(7)),
                            (1, lambda: moving(('in', 'a', 'b'))), (1, lambda: moving(())), (1, moving.undo),
                            (1, lambda: moving.do_all()), (1, lambda: moving.do_all(('in', 'a', 'b'))),
                            (1, lambda: moving.do_all(None, None)), (1, lambda: moving.do_all(keep=None)),
                            (1, moving.undo), (1, moving.undo), (1, moving.undo), (1, moving.undo), (1, moving.undo),
                            (0, lambda: moving.barred(None)), (0, lambda: moving.barred(('go', 'c', 'a'))),
                            (0, lambda: moving.tried(('go', 'c', 'a'))), (0, lambda: moving.tried(None)), (0, moving.state),
                            (0, moving.ring_now), (0, moving.inner_now), (0, moving.log), (0, moving.tally),
                            (0, lambda: len(moving)), (0, lambda: ('c', 'a') in moving), (0, lambda: moving == moving),
                            (0, lambda: moving.rest), (1, moving.shut), (1, moving.shut), (1, moving.undo),
                            (1, lambda: moving.go('c', 'a')), (0, lambda: moving.__enter__())):
            Told(call)
            many += count
            gives(self, (many, many), moving.tally)
        with moving:
            pass
        self.assertEqual(moving.tally(), (many, many))

    def test_log(self):
        moving = self.moving
        head = ('moving', TREE, STAND, LOT)
        moving.go('c', 'a')
        moving.put_out('a', 'b')
        self.assertEqual(moving.log(), (head, ('go', 'c', 'a'), ('out', 'a', 'b')))
        moving.undo()
        self.assertEqual(moving.log(), (head, ('go', 'c', 'a')))
        moving.go('b', 'c')
        Told(moving.go, 'b', 'c')
        self.assertEqual(moving.log(), (head, ('go', 'c', 'a'), ('go', 'b', 'c')))
        moving.shut()
        gives(self, (head, ('go', 'c', 'a'), ('go', 'b', 'c')), moving.log)

    def test_shut(self):
        moving = self.moving
        moving.go('c', 'a')
        for _ in range(2):
            self.assertIs(moving.shut(), None)
            self.assertIs(moving.is_shut, True)
            self.assertEqual([moving.stand, len(moving), moving.state()], [(2, 1, 0, 0), 1, 'going'])
        self.assertEqual(moving.tally(), (3, 3))

    def test_with(self):
        with self.moving as same:
            self.assertIs(same, self.moving)
            self.assertIs(same.is_shut, False)
            self.assertEqual(same.go('c', 'a'), 'going')
        self.assertEqual([self.moving.is_shut, self.moving.tally(), len(self.moving)], [True, (1, 1), 1])
        # one that is shut stays so
        with self.moving as same:
            self.assertIs(same, self.moving)
            self.assertEqual([same.is_shut, same.barred(('go', 'b', 'c'))], [True, 'closed'])
        self.assertIs(self.moving.is_shut, True)

    def test_with_after_an_error(self):
        with self.assertRaises(InvalidEvent) as caught:
            with self.moving as same:
                same.go('c', 'a')
                same.go('c', 'a')
        self.assertEqual(fields_of(caught.exception), {'event': ('go', 'c', 'a'), 'reason': 'none'})
        self.assertEqual([self.moving.is_shut, len(self.moving), self.moving.tally()], [True, 1, (2, 2)])
        error = KeyError('own')
        with self.assertRaises(KeyError) as caught:
            with Moving(TREE, STAND, LOT):
                raise error
        self.assertIs(caught.exception, error)
        moving = Moving(TREE, STAND, LOT)
        with moving:
            moving.shut()
        self.assertEqual([moving.is_shut, moving.tally()], [True, (1, 1)])

    def test_in(self):
        moving = self.moving
        for move in LOT:
            self.assertIs(move in moving, True)
        moving.put_out('c', 'a')
        moving.go('b', 'c')
        self.assertEqual([move in moving for move in LOT], [True, False, True])
        for thing in [*ODD, Other(), ('', 'a'), ['a', 'b'], moving, self.moving]:
            self.assertIs(thing in moving, thing == ('a', 'b') or thing == ('c', 'a'))
            self.assertIs(thing not in moving, not (thing == ('a', 'b') or thing == ('c', 'a')))

    def test_len(self):
        moving = self.moving
        self.assertEqual(len(moving), 0)
        moving.do_all(('go', 'c', 'a'), ('go', 'b', 'c'))
        moving.undo()
        self.assertEqual(len(moving), 1)

    def test_no_iteration(self):
        for moving in (self.moving, Guarded(TREE, STAND, LOT)):
            with self.assertRaises(TypeError):
                iter(moving)
            with self.assertRaises(TypeError):
                list(moving)
            with self.assertRaises(TypeError):
                moving[0]

    def test_equal(self):
        def made(kind, case, events, is_shut):
            moving = kind(*case)
            moving.do_all(*events)
            if is_shut:
                moving.shut()
            return moving
        cases = [(TREE, STAND, LOT), (TREE, STAND, LOT[1:]), (TREE, (2, 1, 1, 0), LOT), (plain.wider(TREE, 'c'), STAND, LOT)]
        made_of = [(case, events, is_shut) for case in cases
                   for events in ((), (('go', 'c', 'a'),), (('out', 'c', 'a'),), (('go', 'c', 'a'), ('go', 'b', 'c')))
                   for is_shut in (False, True) if (case[1], events[:1]) != ((2, 1, 1, 0), (('go', 'c', 'a'),))]
        all_of = [(given, made(kind, *given)) for given in made_of for kind in (Moving, Guarded)]
        self.assertEqual(len(all_of), 56)
        for given, moving in all_of:
            for other_given, other in all_of:
                self.assertIs(moving == other, given == other_given)
                self.assertIs(moving != other, given != other_given)
        for thing in [*ODD, Other(), object(), Moving, self.moving.log(), Order(TREE, STAND), Shelf.of(TREE, STAND)]:
            self.assertIs(self.moving == thing, False)
            self.assertIs(self.moving != thing, True)
            self.assertIs(thing == self.moving, False)

    def test_equal_whatever_was_undone_and_counted(self):
        other = Guarded(TREE, STAND, LOT)
        other.go('c', 'a')
        other.undo()
        Told(other.go, 'a', 'b')
        self.assertTrue(self.moving == other)
        with other:
            pass
        self.assertFalse(self.moving == other)
        self.moving.shut()
        self.assertTrue(self.moving == other)

    def test_properties_are_not_set(self):
        for name in ('tree', 'stand', 'left', 'away', 'rest', 'is_shut'):
            with self.assertRaises(AttributeError):
                setattr(self.moving, name, ())

    def test_wrong_tree_stand_and_lot(self):
        for made in (Moving, Guarded):
            for thing in [*ODD, Other(), list(TREE), (('c', 'a'), ('c', 'b'))]:
                for k, (name, fault) in enumerate((('tree', plain.tree_fault(thing)),
                                                   ('stand', plain.stand_fault(TREE, thing)),
                                                   ('lot', plain.lot_fault(TREE, STAND, thing)))):
                    if fault:
                        args = [*(TREE, STAND, LOT)[:k], thing, *[None] * (2 - k)]
                        refuses(self, NotUsable, {'word': name, 'at': -1}, made, *args)
                        args = [*(TREE, STAND, LOT)[:k], thing, *(TREE, STAND, LOT)[k + 1:]]
                        refuses(self, NotUsable, {'word': name, 'at': -1}, made,
                                **dict(reversed(list(zip(('tree', 'stand', 'lot'), args)))))
            self.assertEqual(by_name_turned(made, ['tree', 'stand', 'lot'], (TREE, STAND, LOT)), made(TREE, STAND, LOT))

    def test_by_name(self):
        moving = self.moving
        self.assertEqual([moving.go(target='a', source='c'), moving.put_out(target='b', source='a'),
                          moving.apply(event=('go', 'b', 'c')), moving(event=('in', 'a', 'b')), moving.barred(event=None)],
                         ['going', 'going', 'going', 'done', 'shape'])
        moving.undo()
        self.assertEqual(moving.bring(target='b', source='a'), 'done')

    def test_go_with_any_values(self):
        for thing in [*ODD, Other()]:
            for call, word in ((self.moving.go, 'go'), (self.moving.put_out, 'out'), (self.moving.bring, 'in')):
                for source, target in ((thing, 'a'), ('c', thing), (thing, thing)):
                    event = (word, source, target)
                    found = plain.Walk(TREE, STAND, LOT).reason(event)
                    if found:
                        refuses(self, InvalidEvent, {'event': event, 'reason': found}, call, source, target)
                    else:
                        self.assertEqual(call(source, target).__class__, str)
                        self.moving.undo()

    def test_errors_keep_the_very_event(self):
        event = ['go', 'c', 'a']
        for call in (self.moving.apply, self.moving, self.moving.tried, self.moving.do_all):
            with self.assertRaises(MovingError) as caught:
                call(event)
            self.assertIs(caught.exception.event, event)

    def test_large(self):
        tree, lot = (('a', '', BIG), ('b', 'a', BIG)), (('', 'b'), ('a', ''), ('b', 'a'))
        moving = Moving(tree, (BIG - 1, 1), lot)
        self.assertEqual([moving.barred(('go', '', 'b')), moving.go('a', ''), moving.go('', 'b'), moving.stand],
                         ['room', 'going', 'going', (BIG - 2, 2)])


if __name__ == '__main__':
    unittest.main()
