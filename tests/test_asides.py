"""Points 2, 7, 9 (O5), 10, 46, 47, 48 and 57: fewest_aside, aside_plan, aside_paper, lets_aside."""

import itertools
import random
import unittest

import plain
from support import (BIG, BOTH, DEEP, FULL, LOT, NEAR, ODD, STAND, STUCK, SWAP, TREE, Other, gives, parameters,
                     refuses, refuses_each, small_cases, takes_arguments)

from roomrings.asidechecker import lets_aside
from roomrings.asidepapers import aside_paper
from roomrings.asides import aside_plan, fewest_aside
from roomrings.errors import InvalidPaper, NotUsable
from roomrings.rings import greatest_ring, inner_rings

NEST, CROSS = (('a', 'p', 1), ('b', 'p', 1), ('p', '', 3), ('q', '', 1)), (('a', 'b'), ('b', 'a'), ('p', 'q'), ('q', 'p'))
OUT = (('out', 'a', 'b'), ('go', 'b', 'a'), ('in', 'a', 'b'))
ALL = (('out', 'a', 'b'), ('out', 'b', 'a'), ('in', 'a', 'b'), ('in', 'b', 'a'))
GOOD = ('aside', OUT, (('a', 'b'),))
PLAIN = ('aside', (('go', 'c', 'a'), ('go', 'b', 'c'), ('go', 'a', 'b')), ())
FOR_FITTING = [fewest_aside, aside_plan, aside_paper]


def steps_fault(tree, stand, lot, steps):
    state = (lot, (), stand)
    for k, step in enumerate(steps):
        state = plain.step_taken(tree, state, step)
        if state is None:
            return 'step', k
    return None if state[:2] == ((), ()) else ('lot', -1)


def touch(tree, name, other):
    return name in plain.around(tree, other) or other in plain.around(tree, name)


def rings_fault(tree, stand, lot, rings):
    names = [row[0] for row in tree]
    for k, ring in enumerate(rings):
        good = (ring.__class__ is tuple and all(name.__class__ is str and name in names for name in ring)
                and list(ring) == sorted(set(ring)) and plain.is_ring(tree, stand, lot, ring))
        if not good:
            return 'ring', k
        if any(touch(tree, name, other) for name in ring for before in rings[:k] for other in before):
            return 'around', k
    return None


def aside_fault(tree, stand, lot, thing):
    """What is wrong first in a value as an aside paper, by the words of the document; None for a paper."""
    if thing.__class__ is not tuple or len(thing) != 3 or not (thing[0].__class__ is str and thing[0] == 'aside'):
        return 'shape', -1
    _, steps, rings = thing
    if steps.__class__ is not tuple or rings.__class__ is not tuple:
        return 'shape', -1
    fault = steps_fault(tree, stand, lot, steps) or rings_fault(tree, stand, lot, rings)
    if fault is None and len(rings) != [step[0] for step in steps].count('out'):
        fault = 'many', -1
    return fault


class Asides(unittest.TestCase):

    def check(self, tree, stand, lot, many):
        """Checks what is told of a lot, if so few files have to be put aside."""
        gives(self, many, fewest_aside, tree, stand, lot)
        plan = aside_plan(tree, stand, lot)
        self.assertIs(plan.__class__, tuple)
        self.assertIsNone(steps_fault(tree, stand, lot, plan))
        self.assertEqual([step[0] for step in plan].count('out'), many)
        paper = aside_paper(tree, stand, lot)
        self.assertIsNone(aside_fault(tree, stand, lot, paper))
        self.assertEqual([step[0] for step in paper[1]].count('out'), many)
        gives(self, many, lets_aside, tree, stand, lot, paper)

    def test_parameters(self):
        for call in FOR_FITTING:
            self.assertEqual(parameters(call), ['tree', 'stand', 'lot'])

    def test_examples(self):
        self.assertEqual([fewest_aside(NEAR, BOTH, SWAP), [step[0] for step in aside_plan(NEAR, BOTH, SWAP)],
                          fewest_aside(TREE, STAND, LOT)], [1, ['out', 'go', 'in'], 0])
        self.assertEqual([fewest_aside(NEST, (1, 1, 1, 1), CROSS), fewest_aside(DEEP, FULL, SWAP)], [1, 1])
        refuses(self, NotUsable, {'word': 'end', 'at': 'a'}, fewest_aside, NEAR, BOTH, (('', 'a'),))

    def test_ordinary(self):
        self.check(NEAR, BOTH, SWAP, 1)
        self.check(NEAR, BOTH, (), 0)
        self.check(TREE, STAND, LOT, 0)
        self.check(STUCK, STAND, LOT, 1)
        self.check(NEST, (1, 1, 1, 1), CROSS, 1)
        self.check(DEEP, FULL, SWAP, 1)

    def test_none_aside(self):
        gives(self, (), aside_plan, NEAR, BOTH, ())
        gives(self, ('aside', (), ()), aside_paper, NEAR, BOTH, ())

    def test_moves_from_outside_beside_those_that_come_in(self):
        # p has one place, which the file that was put aside and the one that comes from outside both go through
        tree = (('a', 'p', 1), ('b', 'p', 1), ('c', 'p', 1), ('p', '', 3), ('q', '', 1))
        self.check(tree, (1, 1, 0, 0, 1), (('', 'c'), ('a', 'b'), ('b', 'a')), 1)
        tree = (('a', '', 2), ('b', '', 1))
        self.check(tree, (2, 1), (('', 'b'), ('a', ''), ('b', 'a')), 0)
        tree = (('a', '', 2), ('b', '', 2), ('c', '', 2), ('d', '', 2))
        self.check(tree, (2, 2, 1, 0), (('', 'c'), ('a', 'b'), ('a', 'b'), ('b', 'a'), ('b', 'a'), ('c', 'd')), 1)

    def test_equal_targets(self):
        # two rings, and moves from outside to the targets of both
        tree = (('a', 'p', 2), ('b', 'p', 2), ('c', 'q', 2), ('d', 'q', 2), ('p', '', 5), ('q', '', 5))
        lot = (('a', 'b'), ('b', 'a'), ('c', 'd'), ('d', 'c'))
        self.check(tree, (2, 2, 2, 2, 0, 0), lot, 2)
        for more in ((('', 'p'),), (('', 'q'),), (('', 'p'), ('', 'q'))):
            self.check(tree, (2, 2, 2, 2, 0, 0), tuple(sorted([*lot, *more])), 2)

    def test_against_a_search(self):
        found = []
        cases = [*small_cases(120, 500, plain.some_fitting, plain.SIX[:5], 5),
                 *small_cases(121, 150, plain.some_fitting, plain.SIX, 7)]
        for tree, stand, lot in cases:
            many = plain.fewest_outs(tree, stand, lot)
            self.check(tree, stand, lot, many)
            self.assertEqual(many, len(inner_rings(tree, stand, lot)))
            found.append(many)
        self.assertGreater(len(found) - found.count(0), 60)

    def test_several_rings(self):
        pick = random.Random(122)
        names = plain.MANY_NAMES[:9]
        for _ in range(60):
            # pairs of folders that change their files, in folders that may be full as well
            shape = [(name, '' if k < 3 else pick.choice(names[:3])) for k, name in enumerate(names)]
            rows = tuple((*row, 0) for row in shape)
            stand = tuple(0 if k < 3 else 1 for k in range(9))
            tree = tuple((*row[:2], plain.uses(rows, stand, row[0]) + (k < 3) * pick.randrange(2))
                         for k, row in enumerate(rows))
            mixed = pick.sample(names[3:], 6)
            lot = tuple(sorted([*zip(mixed[::2], mixed[1::2]), *zip(mixed[1::2], mixed[::2])]))
            many = plain.fewest_outs(tree, stand, lot)
            self.check(tree, stand, lot, many)
            self.assertEqual(many, 3)

    def test_all_lots_of_small_trees(self):
        moves = list(itertools.permutations(('', 'a', 'b', 'p'), 2))
        tree = (('a', 'p', 1), ('b', '', 1), ('p', '', 1))
        for stand in ((1, 1, 0), (0, 1, 1)):
            for many in range(4):
                for lot in itertools.combinations_with_replacement(moves, many):
                    if plain.lot_fault(tree, stand, lot) is None:
                        crowded = plain.crowded(tree, plain.at_end(tree, stand, lot))
                        if crowded:
                            for call in FOR_FITTING:
                                refuses(self, NotUsable, {'word': 'end', 'at': crowded[0]}, call, tree, stand, lot)
                        else:
                            self.check(tree, stand, lot, plain.fewest_outs(tree, stand, lot))

    def test_consequences(self):
        for tree, stand, lot in small_cases(123, 300, plain.some_fitting, plain.SIX):
            turned = tuple(sorted(move[::-1] for move in lot))
            self.assertEqual(fewest_aside(tree, stand, lot),
                             fewest_aside(tree, plain.at_end(tree, stand, lot), turned))
            for move in set(lot):
                if '' not in move:
                    rest = tuple(sorted([*plain.less(lot, move), ('', move[1])]))
                    after = plain.after(tree, stand, (move[0], ''))
                    for ring in plain.all_rings(tree, after, rest):
                        self.assertTrue(plain.is_ring(tree, stand, lot, ring))

    def test_ends_that_do_not_fit(self):
        seen = 0
        for tree, stand, lot in small_cases(124, 300):
            crowded = plain.crowded(tree, plain.at_end(tree, stand, lot))
            if crowded:
                seen += 1
                for call in FOR_FITTING:
                    refuses(self, NotUsable, {'word': 'end', 'at': crowded[0]}, call, tree, stand, lot)
                    refuses(self, NotUsable, {'word': 'end', 'at': crowded[0]}, call, lot=lot, stand=stand, tree=tree)
        self.assertGreater(seen, 20)

    def test_large(self):
        names = plain.MANY_NAMES[:12]
        tree = tuple((name, '', BIG) for name in names)
        lot = tuple(sorted([*zip(names[::2], names[1::2]), *zip(names[1::2], names[::2])] * 2))
        self.assertEqual(len(lot), 24)
        self.check(tree, (BIG,) * 12, lot, 6)
        self.check(tree, (BIG - 1,) + (BIG,) * 11, lot, 5)
        lot = tuple(sorted(list(zip(names, [*names[1:], names[0]])) * 2))
        self.check(tree, (BIG,) * 12, lot, 1)

    def test_arguments(self):
        for call in FOR_FITTING:
            takes_arguments(self, call, TREE, STAND, LOT)
        # the end comes behind tree, stand and lot
        for call in FOR_FITTING:
            refuses(self, NotUsable, {'word': 'lot', 'at': -1}, call, NEAR, BOTH, (('', 'a'), ('', 'a'), ('', 'x')))


class AsideChecker(unittest.TestCase):

    def judge(self, tree, stand, lot, thing):
        fault = aside_fault(tree, stand, lot, thing)
        if fault is None:
            outs = [step[0] for step in thing[1]].count('out')
            gives(self, outs, lets_aside, tree, stand, lot, thing)
        else:
            refuses(self, InvalidPaper, {'word': fault[0], 'at': fault[1]}, lets_aside, tree, stand, lot, thing)
        return fault

    def wrong(self, word, at, thing, tree=NEAR, stand=BOTH, lot=SWAP):
        self.assertEqual(self.judge(tree, stand, lot, thing), (word, at))

    def test_parameters(self):
        self.assertEqual(parameters(lets_aside), ['tree', 'stand', 'lot', 'thing'])

    def test_examples(self):
        self.assertEqual([lets_aside(NEAR, BOTH, SWAP, ('aside', OUT, (('a', 'b'),))),
                          lets_aside(DEEP, FULL, SWAP, ('aside', OUT, (('b', 'p'),)))], [1, 1])
        self.wrong('around', 1, ('aside', ALL, (('a', 'b'), ('p', 'q'))), DEEP, FULL)

    def test_right_ones(self):
        gives(self, 1, lets_aside, NEAR, BOTH, SWAP, GOOD)
        gives(self, 1, lets_aside, NEAR, BOTH, SWAP,
              ('aside', (('out', 'b', 'a'), ('go', 'a', 'b'), ('in', 'b', 'a')), (('a', 'b'),)))
        gives(self, 0, lets_aside, TREE, STAND, LOT, PLAIN)
        gives(self, 0, lets_aside, TREE, STAND, (), ('aside', (), ()))
        for ring in (('a', 'b'), ('a', 'q'), ('b', 'p'), ('p', 'q')):
            gives(self, 1, lets_aside, DEEP, FULL, SWAP, ('aside', OUT, (ring,)))

    def test_shape(self):
        for thing in [*ODD, Other(), (), ('aside',), ('aside', OUT), (*GOOD, ()), list(GOOD), ('asides', *GOOD[1:]),
                      ('', *GOOD[1:]), (('aside',), *GOOD[1:]), (['aside'], *GOOD[1:]), ('aside', list(OUT), GOOD[2]),
                      ('aside', OUT, list(GOOD[2])), ('aside', OUT, None), ('aside', None, ()), ('aside', 'out', ()),
                      ('aside', (), 'a'), (GOOD[2], OUT, 'aside'), ('aside', (None,), []), ('aside', [], (None,))]:
            self.wrong('shape', -1, thing)

    def test_step(self):
        for thing in [*ODD, Other(), ('go', 'a', 'b'), ('out', 'a', 'x'), ('out', '', 'a'), ('out', 'a', ''),
                      ('in', 'b', 'a'), ('go', 'a', 'a'), ('out', 'a', 'a'), ('on', 'a', 'b'), ('OUT', 'a', 'b'),
                      ['out', 'a', 'b'], ('out', 'a'), ('out', 'a', 'b', 'c'), ('out', ('a', 'b')), ('a', 'b'),
                      (['out'], 'a', 'b'), ('out', ['a'], 'b'), (None, 'a', 'b'), (True, 'a', 'b')]:
            for k in (0, 1, 3):
                steps = (*OUT[:k], thing, *OUT[k:])
                self.wrong('step', k, ('aside', steps, GOOD[2]))
            self.wrong('step', 0, ('aside', (thing, thing), (None,)))

    def test_step_that_is_not_possible(self):
        # its file is not outside any more, or was never
        self.wrong('step', 3, ('aside', (*OUT, OUT[2]), GOOD[2]))
        self.wrong('step', 1, ('aside', (OUT[0], ('in', 'b', 'a')), GOOD[2]))
        # the move is not left any more
        self.wrong('step', 1, ('aside', (OUT[0], OUT[0]), GOOD[2]))
        self.wrong('step', 2, ('aside', (*OUT[:2], OUT[1]), GOOD[2]))
        # there is no room
        self.wrong('step', 1, ('aside', (OUT[0], OUT[2]), GOOD[2]))
        self.wrong('step', 0, ('aside', OUT[1:], GOOD[2]))
        # a move from or to outside is not made in two steps
        self.wrong('step', 0, ('aside', (('out', '', 'a'),), ()), NEAR, (0, 1), (('', 'a'),))
        self.wrong('step', 0, ('aside', (('out', 'b', ''),), ()), NEAR, (0, 1), (('b', ''),))

    def test_in_enters_what_is_around_its_source_too(self):
        tree = (('a', 'p', 1), ('b', 'p', 1), ('c', '', 1), ('p', '', 2))
        lot = (('a', 'b'), ('b', 'a'), ('c', 'p'))
        stand = (1, 1, 1, 0)
        # once the file of c is in p there is no place for the one outside
        self.assertTrue(plain.crowded(tree, plain.at_end(tree, stand, lot)))
        self.wrong('step', 3, ('aside', (OUT[0], ('go', 'c', 'p'), OUT[1], OUT[2]), (('a', 'b'),)), tree, stand, lot)
        tree, stand = (('a', 'p', 1), ('b', 'p', 2), ('c', 'p', 1), ('p', '', 2), ('q', '', 1)), (1, 0, 0, 0, 1)
        lot = (('a', 'b'), ('q', 'c'))
        self.wrong('step', 2, ('aside', (OUT[0], ('go', 'q', 'c'), ('in', 'b', 'a')), ()), tree, stand, lot)
        self.wrong('many', -1, ('aside', (OUT[0], ('go', 'q', 'c'), OUT[2]), ()), tree, stand, lot)

    def test_lot(self):
        self.wrong('lot', -1, ('aside', OUT[:2], GOOD[2]))
        self.wrong('lot', -1, ('aside', OUT[:1], GOOD[2]))
        self.wrong('lot', -1, ('aside', (), GOOD[2]))
        self.wrong('lot', -1, ('aside', (), (None,)))
        self.wrong('lot', -1, ('aside', PLAIN[1][:2], ()), TREE, STAND, LOT)

    def test_a_lot_whose_end_does_not_fit(self):
        lot = (('', 'a'), *SWAP)
        self.wrong('lot', -1, ('aside', OUT, (('a', 'b'),)), NEAR, BOTH, lot)
        self.wrong('step', 3, ('aside', (*OUT, ('go', '', 'a')), (('a', 'b'),)), NEAR, BOTH, lot)

    def test_ring(self):
        for thing in [*ODD, Other(), ('b', 'a'), ['a', 'b'], ('a', 'a', 'b'), ('a',), (), ('a', 'x'), 'ab', (('a', 'b'),)]:
            if thing == ('a', 'b'):
                continue
            self.wrong('ring', 0, ('aside', OUT, (thing,)))
            self.wrong('ring', 1, ('aside', OUT, (('a', 'b'), thing)))
            self.wrong('ring', 0, ('aside', OUT, (thing, ('a', 'b'), None)))
        self.wrong('ring', 0, ('aside', OUT, (('a', 'p'),)), DEEP, FULL)
        self.wrong('ring', 0, ('aside', PLAIN[1], (('b', 'c'),)), TREE, STAND, LOT)

    def test_around(self):
        self.wrong('around', 1, ('aside', OUT, (('a', 'b'), ('a', 'b'))))
        for rings in itertools.permutations((('a', 'b'), ('a', 'q'), ('b', 'p'), ('p', 'q')), 2):
            self.wrong('around', 1, ('aside', ALL, rings), DEEP, FULL)
        # the first of two faults, and of two places
        self.wrong('around', 1, ('aside', OUT, (('a', 'b'), ('a', 'b'), ('a', 'b'))))
        self.wrong('around', 1, ('aside', OUT, (('a', 'b'), ('a', 'b'), None)))
        self.wrong('ring', 1, ('aside', OUT, (('a', 'b'), None, ('a', 'b'))))

    def test_around_one_that_is_not_the_last(self):
        tree = (('a', 'p', 1), ('b', 'q', 1), ('c', '', 1), ('d', '', 1), ('p', '', 1), ('q', '', 1))
        stand, lot = (1, 1, 1, 1, 0, 0), (('a', 'b'), ('b', 'a'), ('c', 'd'), ('d', 'c'))
        steps = (OUT[0], *OUT[1:], ('out', 'c', 'd'), ('go', 'd', 'c'), ('in', 'c', 'd'))
        for ring in (('a', 'b'), ('p', 'q'), ('a', 'q'), ('b', 'p')):
            gives(self, 2, lets_aside, tree, stand, lot, ('aside', steps, (ring, ('c', 'd'))))
            gives(self, 2, lets_aside, tree, stand, lot, ('aside', steps, (('c', 'd'), ring)))
            for other in (('a', 'b'), ('p', 'q'), ('a', 'q'), ('b', 'p'), ('c', 'd')):
                self.wrong('around', 2, ('aside', steps, (ring, ('c', 'd'), other)), tree, stand, lot)
        self.wrong('many', -1, ('aside', steps, (('a', 'b'),)), tree, stand, lot)
        # just some of the folders are around others, or within them
        whole = ('a', 'b', 'c', 'd')
        for ring in (('a', 'b'), ('p', 'q'), ('a', 'q'), ('c', 'd')):
            self.wrong('around', 1, ('aside', steps, (ring, whole)), tree, stand, lot)
            self.wrong('around', 1, ('aside', steps, (whole, ring)), tree, stand, lot)

    def test_many(self):
        self.wrong('many', -1, ('aside', OUT, ()))
        self.wrong('many', -1, ('aside', ALL, (('a', 'b'),)))
        self.wrong('many', -1, ('aside', ALL, ()))
        for rings in ((), (('a', 'b'),)):
            steps = (('out', 'c', 'a'), ('in', 'c', 'a'), *PLAIN[1][1:])
            self.wrong('ring' if rings else 'many', 0 if rings else -1, ('aside', steps, rings), TREE, STAND, LOT)

    def test_papers_that_are_spoilt(self):
        pick = random.Random(125)
        odd = [*ODD, 'aside', 'go', 'out', 'in', 'p', 'q', *OUT, *ALL, ('a', 'b'), ('p', 'q'), (('a', 'b'),) * 2]
        met = set()
        cases = [(NEAR, BOTH, SWAP), (DEEP, FULL, SWAP), (STUCK, STAND, LOT), (NEST, (1, 1, 1, 1), CROSS),
                 *small_cases(126, 200, plain.some_fitting, plain.SIX[:5], 5)]
        for tree, stand, lot in cases:
            paper = aside_paper(tree, stand, lot)
            for _ in range(40 if len(tree) < 5 else 10):
                spoilt = plain.broken(pick, paper, odd)
                met.add(self.judge(tree, stand, lot, spoilt))
                met.add(self.judge(tree, stand, lot, plain.broken(pick, spoilt, odd)))
        words = {fault and fault[0] for fault in met}
        self.assertEqual(words, {'shape', 'step', 'lot', 'ring', 'around', 'many', None})

    def test_each_value_in_each_place(self):
        for thing in [*ODD, Other()]:
            for paper in ((thing, *GOOD[1:]), ('aside', thing, GOOD[2]), ('aside', OUT, thing), (thing, thing, thing),
                          ('aside', (thing, *OUT[1:]), GOOD[2]), ('aside', (*OUT[:2], thing), GOOD[2]),
                          ('aside', ((thing, 'a', 'b'), *OUT[1:]), GOOD[2]),
                          ('aside', (('out', thing, 'b'), *OUT[1:]), GOOD[2]),
                          ('aside', (('out', 'a', thing), *OUT[1:]), GOOD[2]),
                          ('aside', (*OUT[:2], ('in', 'a', thing)), GOOD[2]),
                          ('aside', OUT, (thing,)), ('aside', OUT, (('a', thing),)), ('aside', OUT, ((thing, 'b'),))):
                self.judge(NEAR, BOTH, SWAP, paper)

    def test_other_plans(self):
        """Each walk of possible steps, with each ring beside it."""
        pick = random.Random(127)
        for tree, stand, lot in small_cases(128, 200, plain.some_fitting, plain.SIX[:4], 4):
            rings = plain.all_rings(tree, stand, lot)
            for _ in range(5):
                state, steps = (lot, (), stand), ()
                while state[0] or state[1]:
                    tried = [(word, *move) for word, moves in zip(('go', 'out', 'in'), (state[0], state[0], state[1]))
                             for move in moves]
                    tried = [step for step in tried if plain.step_taken(tree, state, step)]
                    if not tried:
                        break
                    steps = (*steps, pick.choice(tried))
                    state = plain.step_taken(tree, state, steps[-1])
                shown = tuple(pick.sample(rings, min(len(rings), [step[0] for step in steps].count('out'))))
                self.judge(tree, stand, lot, ('aside', steps, shown))
                self.judge(tree, stand, lot, ('aside', steps, ()))

    def test_what_is_accepted_is_the_fewest(self):
        for tree, stand, lot in small_cases(129, 100, plain.some_fitting, plain.SIX[:4], 5):
            if greatest_ring(tree, stand, lot) != ():
                many = lets_aside(tree, stand, lot, aside_paper(tree, stand, lot))
                self.assertEqual(many, fewest_aside(tree, stand, lot))

    def test_arguments(self):
        takes_arguments(self, lets_aside, TREE, STAND, LOT, PLAIN)
        refuses_each(self, lets_aside, TREE, STAND, LOT, None)


if __name__ == '__main__':
    unittest.main()
