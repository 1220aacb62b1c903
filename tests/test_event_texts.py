"""Points 18, 19, 70 and 71: event_line, log_lines, read_event, read_log."""

import random
import unittest

import plain
import plaintexts
from support import (BIG, BOTH, LOT, NEAR, ODD, STAND, SWAP, TREE, Other, gives, parameters, refuses, shown, small_cases)

from roomrings.errors import InvalidText, NotUsable
from roomrings.eventreadings import read_event, read_log
from roomrings.eventtexts import event_line, log_lines
from roomrings.guarded import Guarded
from roomrings.movings import Moving
from roomrings.treetexts import lot_words, stand_words, tree_text

HEAD = ('moving', TREE, STAND, LOT)
LOG = (HEAD, ('go', 'c', 'a'))
SMALL = ['moving 1', 'folder a in - room 1', '1', 'a>-', 'go a>-']
LINES = ['moving 2', 'folder a in b room 1', 'folder b in - room 2', '1 0', 'a>- a>b', 'out a>b', 'in a>b', 'go a>-']


class Writers(unittest.TestCase):

    def test_parameters(self):
        self.assertEqual([parameters(event_line), parameters(log_lines)], [['event'], ['log']])

    def test_examples(self):
        self.assertEqual([event_line(('out', 'a', 'b')), log_lines(LOG)[0], log_lines(LOG)[-3:]],
                         ['out a>b', 'moving 4', ['1 1 1 0', 'a>b b>c c>a', 'go c>a']])

    def test_events(self):
        gives(self, 'go ->a', event_line, ('go', '', 'a'))
        gives(self, 'in abcdefgh>-', event_line, ('in', 'abcdefgh', ''))
        gives(self, 'out a>b', event_line, event=('out', 'a', 'b'))
        for thing in [*ODD, Other(), ('go', 'a', 'a'), ('go', 'a'), ['go', 'a', 'b'], ('undo', 'a', 'b'), ('go', 'A', 'b'),
                      ('go', ('a', 'b')), ('undo',), ('GO', 'a', 'b'), ('go', 'a', 'b', ''), (['go'], 'a', 'b')]:
            refuses(self, NotUsable, {'word': 'event', 'at': -1}, event_line, thing)
            for event in ((thing, 'a', 'b'), ('go', thing, 'zz'), ('in', 'zz', thing)):
                if not plain.is_event(event):
                    refuses(self, NotUsable, {'word': 'event', 'at': -1}, event_line, event)

    def test_logs(self):
        gives(self, ['moving 1', 'folder a in - room 0', '0', '-'], log_lines, (('moving', (('a', '', 0),), (0,), ()),))
        gives(self, ['moving 4', *tree_text(TREE).split('\n'), '1 1 1 0', 'a>b b>c c>a', 'go x>y', 'in ->a'], log_lines,
              log=(HEAD, ('go', 'x', 'y'), ('in', '', 'a')))
        # the limits of movings are none of theirs
        names = plain.MANY_NAMES[:20]
        tree = tuple((name, '', BIG) for name in names)
        log = (('moving', tree, (BIG,) * 20, (('am', ''),) * 50), *[('go', 'am', '')] * 90)
        lines = log_lines(log)
        self.assertEqual([len(lines), lines[0], lines[1], lines[-1]], [113, 'moving 20', f'folder am in - room {BIG}', 'go am>-'])

    def test_no_logs(self):
        moving = Moving(TREE, STAND, LOT)
        for thing in [*ODD, Other(), moving, HEAD, [HEAD], (HEAD, None), (HEAD, ('go', 'a', 'a')), (HEAD, HEAD),
                      (('moving', TREE, STAND, LOT[::-1]),), (('moving', TREE, (2, 1, 1, 1), LOT),), (list(HEAD),)]:
            refuses(self, NotUsable, {'word': 'log', 'at': -1}, log_lines, thing)
            refuses(self, NotUsable, {'word': 'log', 'at': -1}, log_lines, log=thing)


class Readers(unittest.TestCase):

    def fault(self, lines, line, field):
        found = plaintexts.log_text_fault(lines)
        self.assertEqual(found, (line, field), lines)
        refuses(self, InvalidText, {'line': line, 'field': field}, read_log, lines)
        refuses(self, InvalidText, {'line': line, 'field': field}, read_log, lines=lines)

    def judge(self, lines):
        found = plaintexts.log_text_fault(lines)
        if plaintexts.is_fault(found):
            refuses(self, InvalidText, {'line': found[0], 'field': found[1]}, read_log, lines)
        else:
            gives(self, found, read_log, lines)
        return found

    def test_parameters(self):
        self.assertEqual([parameters(read_event), parameters(read_log)], [['line'], ['lines']])

    def test_examples(self):
        self.assertEqual([read_event('go ->a'), read_log(log_lines(LOG)) == LOG], [('go', '', 'a'), True])
        self.fault(['moving 1', 'folder a in - room 1', '1'], 3, 0)

    def test_events(self):
        gives(self, ('in', 'abcdefgh', ''), read_event, 'in abcdefgh>-')
        gives(self, ('out', 'a', 'b'), read_event, line='out a>b')
        for text, field in (('', 0), (' ', 0), ('go', 1), ('go ', 1), ('go  a>b', 1), (' go a>b', 0), ('go a>b ', 2),
                            ('go a>b c', 2), ('go a>b c>d', 2), ('go a>a', 1), ('go a>a x', 1), ('Go a>b', 0), ('undo', 0),
                            ('undo a>b', 0), ('a>b', 0), ('a>b go', 0), ('go a', 1), ('go -', 1), ('go ->-', 1), ('go a b', 1),
                            ('go\na>b', 0), ('go a>b\n', 1), ('go\n a>b', 0), ('go \na>b', 1), ('go a>b \n', 2), ('\n', 0),
                            ('goa>b', 0), ('in', 1), ('out', 1), ('ou a>b', 0), ('go a>B', 1), ('go a>abcdefghi', 1),
                            ('go a>b>c', 1), ('go x>', 1), ('x' * 4000, 0), ('bars go a>b', 0), ('go go a>b', 1)):
            self.assertEqual(plaintexts.event_text_fault(text), (0, field), text)
            refuses(self, InvalidText, {'line': 0, 'field': field}, read_event, text)
            refuses(self, InvalidText, {'line': 0, 'field': field}, read_event, line=text)

    def test_no_lines(self):
        for thing in [*ODD, Other(), ('go', 'a', 'b'), ['go a>b']]:
            if not isinstance(thing, str):
                refuses(self, NotUsable, {'word': 'line', 'at': -1}, read_event, thing)
        for thing in [*ODD, Other(), tuple(SMALL), '\n'.join(SMALL), LOG]:
            if not isinstance(thing, list):
                refuses(self, NotUsable, {'word': 'lines', 'at': -1}, read_log, thing)
                refuses(self, NotUsable, {'word': 'lines', 'at': -1}, read_log, lines=thing)
            if not isinstance(thing, str) or '\n' in thing:
                for k in range(len(SMALL) + 1):
                    refuses(self, NotUsable, {'word': 'lines', 'at': -1}, read_log, [*SMALL[:k], thing, *SMALL[k:]])
                # it comes ahead of what is wrong in the lines
                refuses(self, NotUsable, {'word': 'lines', 'at': -1}, read_log, ['', thing])
        for k in range(len(SMALL)):
            for odd in (SMALL[k] + '\n', '\n' + SMALL[k], SMALL[k][:1] + '\n' + SMALL[k][1:]):
                refuses(self, NotUsable, {'word': 'lines', 'at': -1}, read_log, [*SMALL[:k], odd, *SMALL[k + 1:]])

    def test_logs(self):
        gives(self, (('moving', (('a', '', 1),), (1,), (('a', ''),)), ('go', 'a', '')), read_log, SMALL)
        gives(self, (('moving', (('a', '', 1),), (1,), ()),), read_log, [*SMALL[:3], '-'])
        # what nobody wrote may be no log
        gives(self, (('moving', (('a', '', 1),), (7, BIG), (('x', 'y'),)), ('in', 'z', '')), read_log,
              [*SMALL[:2], f'7 {BIG}', 'x>y', 'in z>-'])

    def test_first_line(self):
        for first, field in (('', 0), (' ', 0), ('moving', 1), ('moving ', 1), ('moving  1', 1), ('Moving 1', 0),
                             (' moving 1', 0), ('moving 1 ', 2), ('moving 1 x', 2), ('moving 0', 1), ('moving 01', 1),
                             ('moving 00', 1), ('moving -1', 1), ('moving +1', 1), ('moving one', 1), ('moving 1.', 1),
                             ('moving1', 0), ('1', 0), ('moving x y', 1), ('movings 0', 0), ('moving ' + '9' * 61, 1),
                             ('moving 1' + '0' * 60, 1), ('moving 0 x', 1), ('moving \u0661', 1), ('folder a in - room 1', 0)):
            for behind in ([], SMALL[1:], ['', '', ''], ['x']):
                self.fault([first, *behind], 0, field)
        self.fault([], 0, 0)
        self.fault([''], 0, 0)

    def test_too_few_lines(self):
        for many in range(1, 4):
            self.fault(SMALL[:many], many, 0)
        # lines 1 to N are not looked at then, nor those behind them
        self.fault(['moving 1', 'x', ''], 3, 0)
        self.fault(['moving 3', *LINES[1:5]], 5, 0)
        self.fault(['moving 2', '', '', ''], 4, 0)
        self.fault(['moving ' + '9' * 60, *LINES[1:]], len(LINES), 0)
        self.fault(['moving 1' + '0' * 59, *LINES[1:]], len(LINES), 0)
        self.fault(['moving 1'], 1, 0)

    def test_another_number_of_folders(self):
        # the last folder is read as the numbers, or the numbers as a folder
        self.fault(['moving 1', *LINES[1:]], 1, 3)
        self.fault(['moving 1', LINES[2], *LINES[1:]], 2, 0)
        self.fault(['moving 3', *LINES[1:]], 3, 0)
        self.fault(['moving 4', *LINES[1:]], 3, 0)
        self.fault(['moving 5', *LINES[1:]], 3, 0)
        self.fault(['moving 6', *LINES[1:]], len(LINES), 0)

    def test_the_lines_of_the_tree(self):
        self.fault(['moving 2', LINES[2], LINES[1], *LINES[3:]], 2, 1)
        self.fault([LINES[0], LINES[1] + ' x', *LINES[2:]], 1, 6)
        self.fault([LINES[0], 'folder a in c room 1', *LINES[2:]], 1, 3)
        self.fault([LINES[0], LINES[1], 'folder b in a room 1', *LINES[3:]], 1, 3)
        self.fault([LINES[0], LINES[1], 'folder b in c room 1', *LINES[3:]], 2, 3)
        # all lines of the tree come ahead of its parents
        self.fault([LINES[0], 'folder a in c room 1', 'folder b in - room x', *LINES[3:]], 2, 5)
        # and the tree comes ahead of what stands behind it
        self.fault([LINES[0], 'folder a in c room 1', LINES[2], '', 'x', 'y'], 1, 3)
        self.fault([LINES[0], 'folder a in b room 1', 'folder b in a room 1', '', 'x', 'y'], 1, 3)

    def test_the_lines_behind_the_tree(self):
        self.fault([*LINES[:3], '', 'x', 'y'], 3, 0)
        self.fault([*LINES[:3], '1 01', 'x', 'y'], 3, 1)
        self.fault([*LINES[:4], '', 'y'], 4, 0)
        self.fault([*LINES[:4], 'b>a a>b', 'y'], 4, 1)
        self.fault([*LINES[:4], '- -', 'y'], 4, 1)
        self.fault([*LINES[:5], 'y'], 5, 0)
        self.fault([*LINES[:5], ''], 5, 0)
        self.fault([*LINES, 'go'], len(LINES), 1)
        self.fault([*LINES[:6], 'go a>b c', '', *LINES[6:]], 6, 2)

    def test_written_logs_are_read_back_equal(self):
        pick = random.Random(300)
        for tree, stand, lot in small_cases(301, 200, plain.some_case, plain.SIX, 6):
            walk = plain.Walk(tree, stand, lot)
            events = [plain.some_event(pick, walk) for _ in range(pick.randrange(6))]
            log = (*walk.log(), *events)
            lines = log_lines(log)
            self.assertIs(lines.__class__, list)
            self.assertEqual(lines, [f'moving {len(tree)}', *tree_text(tree).split('\n'), stand_words(stand), lot_words(lot),
                                     *[event_line(event) for event in events]])
            gives(self, log, read_log, lines)
            gives(self, lines, log_lines, read_log(lines))
            for event in events:
                gives(self, event, read_event, event_line(event))
                gives(self, event_line(event), event_line, read_event(event_line(event)))
            # a new list each time, which belongs to the caller
            before = shown(log)
            lines.append('x')
            self.assertEqual([len(log_lines(log)), shown(log)], [len(lines) - 1, before])

    def test_logs_of_movings(self):
        moving = Guarded(NEAR, BOTH, SWAP)
        moving.do_all(('out', 'a', 'b'), ('go', 'b', 'a'), ('in', 'a', 'b'))
        gives(self, moving.log(), read_log, log_lines(moving.log()))

    def test_each_word_changed(self):
        """Each word of each line left out, doubled, empty, another one, with blanks and signs more."""
        met = set()
        for lines in (SMALL, LINES, log_lines(LOG)):
            for k, line in enumerate(lines):
                words = line.split(' ')
                for field, word in enumerate(words):
                    before, behind = words[:field], words[field + 1:]
                    for some in ([], [word, word], [''], [word, ''], ['', word], ['x'], ['-'], ['0'], ['01'], ['a'], ['a>b'],
                                 ['b>a'], ['go'], ['moving'], ['folder'], [word + 'x'], [word + '0'], ['0' + word],
                                 [word.upper()], [word[:-1]], ['9' * 60], ['9' * 61], ['1' + '0' * 60]):
                        changed = ' '.join([*before, *some, *behind])
                        found = self.judge([*lines[:k], changed, *lines[k + 1:]])
                        met.add(found[0] if plaintexts.is_fault(found) else None)
        self.assertLessEqual({None, *range(8)}, met)

    def test_each_line_changed(self):
        """Each line left out, doubled, empty, exchanged with another one, and lines added."""
        for lines in (SMALL, LINES, log_lines(LOG)):
            for k in range(len(lines) + 1):
                self.judge(lines[:k])
                self.judge(lines[:k] + lines[k + 1:])
                self.judge(lines[:k] + lines[k:k + 1] + lines[k:])
                for more in ('', ' ', 'x', '-', '0', 'go a>b', *lines):
                    self.judge([*lines[:k], more, *lines[k:]])
                    self.judge([*lines[:k], more, *lines[k + 1:]])
                for n in range(k):
                    other = list(lines)
                    if k < len(lines):
                        other[k], other[n] = other[n], other[k]
                        self.judge(other)

    def test_texts_that_are_changed(self):
        pick = random.Random(302)
        told = {True: 0, False: 0}
        for tree, stand, lot in small_cases(303, 300, plain.some_case, plain.SIX[:4], 4):
            walk = plain.Walk(tree, stand, lot)
            lines = log_lines((*walk.log(), *[plain.some_event(pick, walk) for _ in range(pick.randrange(4))]))
            for _ in range(5):
                text = plaintexts.changed(pick, '\n'.join(lines))
                told[plaintexts.is_fault(self.judge(text.split('\n')))] += 1
            if len(lines) > len(tree) + 3:
                text = plaintexts.changed(pick, lines[-1])
                found = plaintexts.event_text_fault(text)
                if plaintexts.is_fault(found):
                    refuses(self, InvalidText, {'line': 0, 'field': found[1]}, read_event, text)
                else:
                    gives(self, found, read_event, text)
        self.assertGreater(min(told.values()), 40)


if __name__ == '__main__':
    unittest.main()
