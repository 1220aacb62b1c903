"""Points 2, 11 and 59: is_log."""

import random
import unittest

import plain
from support import BIG, BOTH, LOT, NEAR, ODD, STAND, SWAP, TREE, Other, gives, nest, parameters, small_cases

from roomrings.logkinds import is_log
from roomrings.movings import Moving

HEAD = ('moving', TREE, STAND, LOT)
EVENTS = (('go', 'c', 'a'), ('out', 'b', 'c'), ('in', 'b', 'c'))


class LogKinds(unittest.TestCase):

    def judge(self, thing):
        good = plain.is_log(thing)
        gives(self, good, is_log, thing)
        return good

    def test_parameters(self):
        self.assertEqual(parameters(is_log), ['thing'])
        self.assertIs(is_log(thing=(HEAD,)), True)

    def test_right_ones(self):
        for log in ((HEAD,), (HEAD, *EVENTS), (HEAD, *EVENTS * 20), (('moving', NEAR, BOTH, ()),),
                    (('moving', (('a', '', BIG),), (BIG,), (('a', ''),) * 30),), Moving(TREE, STAND, LOT).log(),
                    # events need not be possible, and any names will do
                    (HEAD, ('go', 'a', 'b'), ('in', '', 'a'), ('out', 'x', ''), ('go', 'abcdefgh', 'z'))):
            self.assertTrue(plain.is_log(log))
            gives(self, True, is_log, log)

    def test_values_of_every_kind(self):
        for thing in [*ODD, Other(), [HEAD], EVENTS, ('moving',), (('moving',),), Moving(TREE, STAND, LOT)]:
            gives(self, False, is_log, thing)
            gives(self, False, is_log, (thing,))
            gives(self, False, is_log, (HEAD, thing))
            gives(self, False, is_log, (HEAD, *EVENTS[:1], thing, *EVENTS[1:]))
        gives(self, False, is_log, nest(HEAD, 20))

    def test_the_first_element(self):
        for head in (HEAD[:3], (*HEAD, ()), list(HEAD), HEAD[1:], ('Moving', *HEAD[1:]), ('', *HEAD[1:]),
                     ('go', *HEAD[1:]), (['moving'], *HEAD[1:]), ('moving', list(TREE), STAND, LOT),
                     ('moving', TREE, list(STAND), LOT), ('moving', TREE, STAND, list(LOT)),
                     ('moving', TREE, LOT, STAND), ('moving', TREE, (1, 1, 1), LOT), ('moving', TREE, (2, 1, 1, 1), LOT),
                     ('moving', TREE, (1, True, 1, 0), LOT), ('moving', TREE, STAND, LOT[::-1]),
                     ('moving', TREE, STAND, (('c', 'a'), ('c', 'b'))), ('moving', TREE, STAND, (('a', 'x'),)),
                     ('moving', TREE[::-1], STAND, LOT), ('moving', (('a', 'b', 1),), (0,), ())):
            gives(self, False, is_log, (head,))
            gives(self, False, is_log, (head, *EVENTS))
        for thing in ODD:
            for k in range(4):
                self.judge(((*HEAD[:k], thing, *HEAD[k + 1:]), *EVENTS))
                self.judge(((*HEAD[:k], thing, *HEAD[k + 1:]),))

    def test_events(self):
        for event in (('go', 'a', 'a'), ('go', '', ''), ('undo', 'a', 'b'), ('GO', 'a', 'b'), ('', 'a', 'b'),
                      ('go', 'a'), ('go', 'a', 'b', 'c'), ('go', ('a', 'b')), ['go', 'a', 'b'], ('go', 'A', 'b'),
                      ('go', 'a', 'abcdefghi'), ('undo',), (True, 'a', 'b'), (('go',), 'a', 'b'), ('go ', 'a', 'b')):
            for k in range(4):
                gives(self, False, is_log, (HEAD, *EVENTS[:k], event, *EVENTS[k:]))
        for thing in ODD:
            for event in ((thing, 'a', 'b'), ('go', thing, 'b'), ('out', 'a', thing), ('in', thing, thing)):
                self.judge((HEAD, event))
                self.judge((HEAD, *EVENTS, event))

    def test_values_near_logs(self):
        pick = random.Random(260)
        odd = [*ODD, 'moving', 'go', 'out', 'in', 'p', *EVENTS, HEAD, SWAP]
        told = {True: 0, False: 0}
        for tree, stand, lot in [(TREE, STAND, LOT), (NEAR, BOTH, SWAP), *small_cases(261, 100)]:
            walk = plain.Walk(tree, stand, lot)
            for _ in range(20):
                events = [plain.some_event(pick, walk) for _ in range(pick.randrange(4))]
                log = (*walk.log(), *events)
                self.assertTrue(self.judge(log))
                spoilt = plain.broken(pick, log, odd)
                told[self.judge(spoilt)] += 1
                self.judge(plain.broken(pick, spoilt, odd))
                # deep within the first element
                told[self.judge((plain.broken(pick, log[0], odd), *log[1:]))] += 1
        self.assertGreater(told[True], 100)
        self.assertGreater(told[False], 500)


if __name__ == '__main__':
    unittest.main()
