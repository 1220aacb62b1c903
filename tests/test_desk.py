"""Points 73 and 74: class Desk."""

import random
import unittest

import plain
import plaintexts
from support import (BOTH, LOT, NEAR, ODD, STAND, STUCK, SWAP, TREE, Other, Told, parameters, refuses, small_cases)

from roomrings.desk import Desk
from roomrings.errors import InvalidEvent, InvalidRow, NothingToUndo
from roomrings.eventtexts import event_line, log_lines
from roomrings.movings import Moving
from roomrings.treetexts import lot_words, stand_words

LOG = (('moving', TREE, STAND, LOT), ('go', 'c', 'a'))
NEST, CROSS = (('a', 'p', 1), ('b', 'p', 1), ('p', '', 3), ('q', '', 1)), (('a', 'b'), ('b', 'a'), ('p', 'q'), ('q', 'p'))
ASKS = ['stand', 'left', 'away', 'rest', 'ring', 'inner', 'state', 'events', 'log']


def made(tree, stand, lot):
    """The row that makes a moving."""
    return '\n'.join(log_lines((('moving', tree, stand, lot),)))


class Desks(unittest.TestCase):

    def setUp(self):
        self.desk = Desk()

    def says(self, *pairs):
        for row, answer in pairs:
            found = self.desk.say(row)
            self.assertEqual([found, found.__class__], [answer, str], row)

    def no_row(self, desk, row):
        """The desk does not know this row, and nothing changes but the count."""
        told = [Told(desk.say, ask).result for ask in ASKS]
        many = desk.counts()[0]
        refuses(self, InvalidRow, {'row': row}, desk.say, row)
        with self.assertRaises(InvalidRow) as caught:
            desk.say(row=row)
        self.assertIs(caught.exception.row, row)
        self.assertEqual(desk.counts(), (many + 2, many + 2))
        self.assertEqual([Told(desk.say, ask).result for ask in ASKS], told)

    def test_interface(self):
        self.assertEqual([parameters(Desk), parameters(self.desk.say), parameters(self.desk.counts)], [[], ['row'], []])
        for name in ('__init__', 'say', 'counts'):
            self.assertIn(name, vars(Desk))

    def test_examples(self):
        desk = self.desk
        self.assertEqual([desk.say('\n'.join(log_lines(LOG)[:-1])), desk.say('go c>a'), desk.say('bars go a>b'),
                          desk.say('out a>b'), desk.say('rest'), desk.say('log')],
                         ['ok', 'going', 'room', 'going', '->b b>c', 'go c>a / out a>b'])
        self.assertEqual([desk.say('undo'), desk.say('away'), desk.say('ring'), desk.counts()],
                         ['out a>b', '-', '-', (9, 9)])

    def test_rows_of_a_new_moving(self):
        self.says((made(TREE, STAND, LOT), 'ok'), ('stand', '1 1 1 0'), ('left', 'a>b b>c c>a'), ('away', '-'),
                  ('rest', 'a>b b>c c>a'), ('ring', '-'), ('inner', '-'), ('state', 'going'), ('events', '0'), ('log', '-'))
        self.says((made(TREE, STAND, ()), 'ok'), ('left', '-'), ('rest', '-'), ('state', 'done'))
        self.assertEqual(self.desk.counts(), (14, 14))

    def test_rings(self):
        tree = (('a', '', 1), ('b', '', 1), ('c', '', 1), ('d', '', 1))
        self.says((made(tree, (1, 1, 1, 1), (('a', 'b'), ('b', 'a'), ('c', 'd'), ('d', 'c'))), 'ok'),
                  ('ring', 'a b c d'), ('inner', 'a,b c,d'), ('state', 'ring'), ('out a>b', 'ring'), ('ring', 'c d'),
                  ('inner', 'c,d'))
        self.says((made(STUCK, STAND, LOT), 'ok'), ('ring', 'c top'), ('inner', 'c,top'))
        self.says((made(NEST, (1, 1, 1, 1), CROSS), 'ok'), ('ring', 'p q'), ('inner', 'a,b'))

    def test_events(self):
        self.says((made(NEAR, BOTH, SWAP), 'ok'), ('bars go a>b', 'room'), ('bars out a>b', '-'), ('out a>b', 'going'),
                  ('left', 'b>a'), ('away', 'a>b'), ('rest', '->b b>a'), ('stand', '0 1'), ('bars in a>b', 'room'),
                  ('bars go a>b', 'none'), ('go b>a', 'going'), ('events', '2'), ('in a>b', 'done'), ('state', 'done'),
                  ('log', 'out a>b / go b>a / in a>b'), ('undo', 'in a>b'), ('events', '2'), ('undo', 'go b>a'),
                  ('log', 'out a>b'), ('state', 'going'))
        self.says((made(TREE, STAND, (('', 'a'), ('a', ''))), 'ok'), ('go ->a', 'going'), ('go a>-', 'done'),
                  ('log', 'go ->a / go a>-'))

    def test_errors_of_the_moving(self):
        desk = self.desk
        desk.say(made(TREE, STAND, LOT))
        refuses(self, NothingToUndo, {'steps': 0}, desk.say, 'undo')
        for row, event, reason in (('go a>b', ('go', 'a', 'b'), 'room'), ('in a>b', ('in', 'a', 'b'), 'none'),
                                   ('out x>y', ('out', 'x', 'y'), 'none'), ('out ->a', ('out', '', 'a'), 'none')):
            refuses(self, InvalidEvent, {'event': event, 'reason': reason}, desk.say, row)
            self.assertEqual(desk.say('bars ' + row), reason)
        self.assertEqual([desk.say('events'), desk.say('state'), desk.counts()], ['0', 'going', (12, 12)])
        wide = (('a', '', 60), ('b', '', 60))
        desk.say(made(wide, (50, 0), (('a', 'b'),) * 50))
        for _ in range(40):
            self.assertEqual(desk.say('go a>b'), 'going')
        refuses(self, InvalidEvent, {'event': ('go', 'a', 'b'), 'reason': 'full'}, desk.say, 'go a>b')
        self.assertEqual([desk.say('bars go a>b'), desk.say('events'), desk.say('stand')], ['full', '40', '10 40'])

    def test_shut(self):
        desk = self.desk
        desk.say(made(TREE, STAND, LOT))
        desk.say('go c>a')
        for _ in range(2):
            self.says(('shut', 'ok'), ('stand', '2 1 0 0'), ('left', 'a>b b>c'), ('away', '-'), ('rest', 'a>b b>c'),
                      ('ring', '-'), ('inner', '-'), ('state', 'going'), ('events', '1'), ('log', 'go c>a'),
                      ('bars go a>b', 'closed'), ('bars in x>y', 'closed'))
            refuses(self, InvalidEvent, {'event': ('go', 'b', 'c'), 'reason': 'closed'}, desk.say, 'go b>c')
            refuses(self, InvalidEvent, {'event': ('undo',), 'reason': 'closed'}, desk.say, 'undo')
            self.no_row(desk, 'open')
        # a new one is not shut
        self.says((made(TREE, STAND, LOT), 'ok'), ('go c>a', 'going'), ('events', '1'))

    def test_without_a_moving(self):
        for row in (*ASKS, 'undo', 'shut', 'go c>a', 'bars go c>a', 'bars', '', 'x', '-'):
            self.no_row(self.desk, row)
        self.assertEqual(self.desk.counts()[0], self.desk.counts()[1])
        self.says((made(TREE, STAND, LOT), 'ok'))

    def test_rows_that_are_no_lines_of_a_log(self):
        good = made(TREE, STAND, LOT)
        wrong = ['\n'.join(log_lines(LOG)), good + '\n', '\n' + good, good + ' ', ' ' + good, good + '\ngo c>a', good + '\nx',
                 good + '\nundo', good.replace('moving 4', 'moving 3'), good.replace('moving 4', 'moving 04'),
                 good.replace('\n', ' '), 'moving 1', 'moving 4', good[:-3], '\n'.join(good.split('\n')[:-1]),
                 # lines of no log: the stand is none of the tree, or the lot none of the stand
                 good.replace('1 1 1 0', '1 1 1'), good.replace('1 1 1 0', '3 1 1 0'), good.replace('1 1 1 0', '1 1 2 0'),
                 good.replace('1 1 1 0', '1 1 1 0 0'), good.replace('c>a', 'c>a c>b'), good.replace('a>b', 'a>x'),
                 good.replace('c>a', 'top>a'), good.replace('top room 2', 'x room 2'), good.replace('folder c', 'folder aa')]
        for desk in (Desk(), self.desk):
            if desk is self.desk:
                desk.say(made(NEAR, BOTH, SWAP))
            for row in wrong:
                self.no_row(desk, row)
        self.says(('stand', '1 1'))

    def test_rows_near_right_ones(self):
        self.desk.say(made(TREE, STAND, LOT))
        rows = [*ASKS, 'undo', 'shut', 'go c>a', 'bars go c>a', 'bars out a>b']
        for row in rows:
            for wrong in (row + ' ', ' ' + row, row + '\n', '\n' + row, row.upper(), row.title(), row[1:], row[:-1] + '?',
                          row + ' ' + row, row + row, row + ' x', row + ' -', row + '\n' + row, row.replace(' ', '  '),
                          row.replace(' ', '\n')):
                if wrong not in rows:
                    self.no_row(self.desk, wrong)
        for wrong in ('', '-', ' ', '\n', 'bars', 'bars ', 'bars undo', 'bars bars go c>a', 'bars state', 'bars go', 'bars go c>c',
                      'bars go c', 'bars  go c>a', 'bars go c>a x', 'go', 'go c', 'go c>c', 'go c>a>b', 'undo c>a', 'ok', 'tally',
                      'is_shut', 'len', 'folder a in - room 1', 'moving', 'bring c>a', 'put_out c>a', 'moving 4', 'tree'):
            self.no_row(self.desk, wrong)
        self.says(('events', '0'), ('state', 'going'))

    def test_values_of_every_kind(self):
        for desk in (Desk(), self.desk):
            if desk is self.desk:
                desk.say(made(TREE, STAND, LOT))
            for thing in [*ODD, Other(), ['state'], ('state',), LOG, log_lines(LOG), Moving(TREE, STAND, LOT), Desk()]:
                self.no_row(desk, thing)

    def test_counts(self):
        desk = Desk()
        self.assertEqual(desk.counts(), (0, 0))
        for many, row in enumerate([None, 'state', made(TREE, STAND, LOT), 'go c>a', 'go c>a', 'undo', 'undo', 'x', 'bars x',
                                    'bars go c>a', *ASKS, 'shut', 'shut', 'undo', made(NEAR, BOTH, SWAP), []], start=1):
            Told(desk.say, row)
            counts = desk.counts()
            self.assertEqual([counts, counts.__class__], [(many, many), tuple])
            self.assertEqual(desk.counts(), (many, many))

    def test_desks_are_apart(self):
        other = Desk()
        self.desk.say(made(TREE, STAND, LOT))
        self.no_row(other, 'state')
        other.say(made(TREE, STAND, LOT))
        other.say('go c>a')
        self.says(('events', '0'), ('stand', '1 1 1 0'))

    def test_against_a_walk(self):
        pick = random.Random(310)
        met = set()
        for case in [*small_cases(311, 100, plain.some_case, plain.SIX[:4], 5),
                     *small_cases(312, 60, plain.some_stuck, plain.SIX[:5], 6)]:
            desk, walk = self.desk, plain.Walk(*case)
            self.assertEqual(desk.say(made(*case)), 'ok')
            for _ in range(12):
                event = plain.some_event(pick, walk)
                why = walk.reason(event)
                met.add(why)
                self.assertEqual(desk.say('bars ' + event_line(event)), why or '-')
                if why:
                    refuses(self, InvalidEvent, {'event': event, 'reason': why}, desk.say, event_line(event))
                else:
                    walk.events.append(event)
                    self.assertEqual(desk.say(event_line(event)), walk.shown()[2])
                if walk.events and not walk.is_shut and pick.random() < 0.1:
                    self.assertEqual(desk.say('undo'), event_line(walk.events.pop()))
                if pick.random() < 0.02:
                    walk.is_shut = True
                    desk.say('shut')
                left, away, stand = walk.course()
                _, rest, state = walk.shown()
                rings = plain.all_rings(walk.tree, stand, rest)
                self.assertEqual([desk.say(row) for row in ASKS],
                                 [stand_words(stand), lot_words(left), lot_words(away), lot_words(rest),
                                  ' '.join(plain.greatest(walk.tree, rings)) or '-',
                                  ' '.join(','.join(ring) for ring in plain.inner(walk.tree, rings)) or '-', state,
                                  str(len(walk.events)), ' / '.join(map(event_line, walk.events)) or '-'])
        self.assertEqual(met, {None, 'none', 'room', 'closed'})

    def test_rows_that_are_changed(self):
        """Each text either writes the beginning of a log, or an event, or is one of the rows, or is no row."""
        pick = random.Random(313)
        rows = [*ASKS, 'undo', 'shut', 'go a>b', 'bars go a>b', made(NEAR, BOTH, SWAP), made(TREE, STAND, LOT)]
        told = {True: 0, False: 0}
        for _ in range(4000):
            desk = Desk()
            desk.say(made(NEAR, BOTH, SWAP))
            row = plaintexts.changed(pick, pick.choice(rows))
            log = plaintexts.log_text_fault(row.split('\n'))
            good = (row in (*ASKS, 'undo', 'shut') or (plain.is_log(log) and len(log) == 1)
                    or any(row.startswith(word) and not plaintexts.is_fault(plaintexts.event_text_fault(row[len(word):]))
                           for word in ('', 'bars ')))
            told[good] += 1
            self.assertEqual(Told(desk.say, row).kind is not InvalidRow, good, row)
        self.assertGreater(min(told.values()), 40)


if __name__ == '__main__':
    unittest.main()
