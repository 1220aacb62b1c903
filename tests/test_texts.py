"""Points 10, 18 and 19: what the writers write, and what the readers read."""

import random
import re
import unittest

import plain
import plaintexts
from support import BIG, LOT, ODD, STAND, TREE, Other, gives, parameters, refuses

from roomrings.errors import InvalidText, NotUsable
from roomrings.kinds import is_move, is_moves
from roomrings.treereadings import lot_read, move_read, stand_read, tree_read
from roomrings.treetexts import lot_words, move_words, stand_words, tree_text

READERS = [tree_read, stand_read, move_read, lot_read]


class Writers(unittest.TestCase):

    def test_parameters(self):
        calls = [tree_text, stand_words, move_words, lot_words]
        self.assertEqual([parameters(call) for call in calls], [['tree'], ['stand'], ['move'], ['lot']])

    def test_examples(self):
        self.assertEqual([stand_words(STAND), lot_words(LOT), move_words(('', 'a'))],
                         ['1 1 1 0', 'a>b b>c c>a', '->a'])
        self.assertEqual(tree_text(TREE), 'folder a in top room 2\nfolder b in top room 1\n'
                                          'folder c in - room 1\nfolder top in - room 3')

    def test_ordinary(self):
        gives(self, 'folder a in - room 0', tree_text, (('a', '', 0),))
        gives(self, f'folder a in - room {BIG}', tree_text, (('a', '', BIG),))
        gives(self, '0', stand_words, (0,))
        gives(self, f'{BIG} 10', stand_words, (BIG, 10))
        gives(self, 'in>-', move_words, ('in', ''))
        gives(self, '-', lot_words, ())
        gives(self, 'a>-', lot_words, (('a', ''),))
        gives(self, 'a>b a>b', lot_words, (('a', 'b'), ('a', 'b')))

    def test_by_name(self):
        self.assertEqual([tree_text(tree=TREE), stand_words(stand=(3,)), move_words(move=('b', 'a')), lot_words(lot=())],
                         [tree_text(TREE), '3', 'b>a', '-'])

    def test_wrong_values(self):
        for thing in ODD:
            if plain.tree_fault(thing):
                refuses(self, NotUsable, {'word': 'tree', 'at': -1}, tree_text, thing)
            if not (isinstance(thing, tuple) and thing and all(plain.is_plain_number(part) for part in thing)):
                refuses(self, NotUsable, {'word': 'stand', 'at': -1}, stand_words, thing)
            if not is_move(thing):
                refuses(self, NotUsable, {'word': 'move', 'at': thing}, move_words, thing)
            if not is_moves(thing):
                refuses(self, NotUsable, {'word': 'lot', 'at': -1}, lot_words, thing)
            if not plain.is_plain_number(thing):
                refuses(self, NotUsable, {'word': 'stand', 'at': -1}, stand_words, (1, thing))
        for lot in (LOT[::-1], (('a', 'a'),), (('', ''),), [], (('a', 'b', 'c'),)):
            refuses(self, NotUsable, {'word': 'lot', 'at': -1}, lot_words, lot)
        for stand in ((), [1], (True,), (-1,)):
            refuses(self, NotUsable, {'word': 'stand', 'at': -1}, stand_words, stand)


class Readers(unittest.TestCase):

    def fault(self, call, text, line, field):
        refuses(self, InvalidText, {'line': line, 'field': field}, call, text)
        refuses(self, InvalidText, {'line': line, 'field': field}, call, text=text)

    def test_parameters(self):
        for call in READERS:
            self.assertEqual(parameters(call), ['text'])

    def test_no_string(self):
        for thing in [*ODD, Other()]:
            if not isinstance(thing, str):
                for call in READERS:
                    refuses(self, NotUsable, {'word': 'text', 'at': -1}, call, thing)

    def test_examples(self):
        self.assertEqual([lot_read('-'), move_read('in>-'), stand_read('0 12')], [(), ('in', ''), (0, 12)])
        self.fault(tree_read, 'folder a in b room 1\nfolder c in - room 01', 1, 5)

    def test_written_values_are_read_back_equal(self):
        pick = random.Random(24)
        for _ in range(300):
            tree = plain.some_tree(pick, plain.MANY_NAMES, most=10 ** pick.randrange(61))
            stand = tuple(pick.randrange(10 ** pick.randrange(61)) for _ in range(pick.randrange(1, 40)))
            lot = plain.some_moves(pick, tree, 40)
            for call, back, thing in ((tree_text, tree_read, tree), (stand_words, stand_read, stand),
                                      (lot_words, lot_read, lot)):
                gives(self, thing, back, call(thing))
                gives(self, call(thing), call, back(text=call(thing)))
            for move in lot:
                gives(self, move, move_read, move_words(move))

    def test_stands(self):
        gives(self, (0,), stand_read, '0')
        gives(self, (BIG, 0, 7), stand_read, f'{BIG} 0 7')
        for text, field in (('', 0), (' ', 0), ('1 ', 1), (' 1', 0), ('1  2', 1), ('01', 0), ('00', 0), ('1 -1', 1),
                            ('+1', 0), ('1 2 x', 2), ('1\n', 0), ('1 \n', 1), ('\n1', 0), ('1\n2', 0), ('1_0', 0),
                            ('1.0', 0), ('1 ' + '9' * 61, 1), ('9' * 61 + ' x', 0), ('x 01', 0), ('1 1 1 0 ', 4),
                            ('True', 0), ('1,2', 0), ('9' * 4000, 0), ('0x1', 0), ('-', 0), ('1 00', 1), ('-0', 0)):
            self.fault(stand_read, text, 0, field)

    def test_moves(self):
        gives(self, ('abcdefgh', 'a'), move_read, 'abcdefgh>a')
        gives(self, ('', 'a'), move_read, '->a')
        for text, field in (('', 0), (' ', 0), ('a>b ', 1), (' a>b', 0), ('a>b c>d', 1), ('a>a', 0), ('->-', 0), ('a', 0),
                            ('a>', 0), ('>a', 0), ('>', 0), ('a>b>c', 0), ('a>B', 0), ('a>abcdefghi', 0), ('a>b\n', 0),
                            ('a>b \n', 1), ('a> b', 0), ('a >b', 0), ('a>b  ', 1), ('-', 0), ('a>-b', 0), ('a->b', 0),
                            ('x a>b', 0), ('a=b', 0), ('a>1', 0), ('\na>b', 0), ('-->a', 0)):
            self.fault(move_read, text, 0, field)

    def test_lots(self):
        gives(self, (('a', 'b'), ('a', 'b'), ('b', '')), lot_read, 'a>b a>b b>-')
        gives(self, (('', 'a'), ('a', '')), lot_read, '->a a>-')
        for text, field in (('', 0), (' ', 0), ('- ', 1), (' -', 0), ('- -', 1), ('- a>b', 1), ('a>b -', 1), ('a>b ', 1),
                            ('a>b  a>b', 1), ('b>a a>b', 1), ('a>c a>b', 1), ('a>b b>c a>b', 2), ('a>- ->a', 1),
                            ('a>b a>a', 1), ('-\n', 0), ('a>b\n', 0), ('a>b \n', 1), ('\n', 0), ('--', 0), ('x -', 0),
                            ('a>b x a>a', 1), ('- x', 1), ('a>b b', 1), ('->-', 0), ('a>b a>- a>b', 1)):
            self.fault(lot_read, text, 0, field)

    def test_trees(self):
        gives(self, (('a', '', 0),), tree_read, 'folder a in - room 0')
        gives(self, (('a', 'b', BIG), ('b', '', 2)), tree_read, f'folder a in b room {BIG}\nfolder b in - room 2')

    def test_each_word_of_a_line(self):
        good = ['folder', 'b', 'in', 'a', 'room', '12']
        wrong = {0: ['', 'Folder', 'folders', 'b', '-', 'folder.'],
                 1: ['', '-', 'B', 'abcdefghi', 'a', 'aa', '1', 'b.', 'folder1', 'b>c'],
                 2: ['', 'In', 'inn', '-', 'i'],
                 3: ['', 'b', 'A', '--', '0', 'abcdefghi', 'a.'],
                 4: ['', 'Room', 'rooms', '12'],
                 5: ['', '-1', '01', '00', '012', 'x', '1.', '+1', '9' * 61, '-', '1x']}
        for before in ('folder aa in - room 1\n', 'folder a in - room 1\nfolder aa in a room 1\n'):
            line = before.count('\n')
            for field, words in wrong.items():
                for word in words:
                    text = ' '.join([*good[:field], word, *good[field + 1:]])
                    for behind in ('', '\n', '\nx', '\nfolder c in - room 1'):
                        self.fault(tree_read, before + text + behind, line, field)
                    for late in range(field, 7):
                        rows = [*good[:field], word, *good[field + 1:], '']
                        rows[late] = word if late == field else '?'
                        self.fault(tree_read, before + ' '.join(rows), line, field)
                    self.fault(tree_read, before + ' '.join([*good[:field], word]), line, field)
            for many in range(1, 6):
                self.fault(tree_read, before + ' '.join(good[:many]), line, many)
                self.fault(tree_read, before + ' '.join(good[:many]) + '\nx', line, many)
            for more in ('', 'x', '0', '  ', 'folder'):
                self.fault(tree_read, before + ' '.join([*good, more]), line, 6)
            self.fault(tree_read, before + ' ' + ' '.join(good), line, 0)

    def test_newlines(self):
        row = 'folder a in - room 1'
        for text, line, field in (('', 0, 0), ('\n', 0, 0), (row + '\n', 1, 0), ('\n' + row, 0, 0),
                                  (row + '\n\nfolder b in - room 1', 1, 0), (row + ' \n', 0, 6), (row + '\n ', 1, 0),
                                  ('folder a\nin - room 1', 0, 2), ('folder a in - room\n1', 0, 5)):
            self.fault(tree_read, text, line, field)

    def test_sixty_digits(self):
        gives(self, (('a', '', 10 ** 59),), tree_read, 'folder a in - room 1' + '0' * 59)
        self.fault(tree_read, 'folder a in - room 1' + '0' * 60, 0, 5)
        gives(self, (10 ** 59,), stand_read, '1' + '0' * 59)
        self.fault(stand_read, '1' + '0' * 60, 0, 0)

    def test_names_ascend(self):
        self.fault(tree_read, 'folder a in - room 1\nfolder a in - room 1', 1, 1)
        self.fault(tree_read, 'folder b in - room 1\nfolder ab in x room 01', 1, 1)
        gives(self, (('a', '', 1), ('ab', '', 1)), tree_read, 'folder a in - room 1\nfolder ab in - room 1')

    def test_parents_of_nobody_and_circles(self):
        def lines(*parents):
            return '\n'.join(f'folder {name} in {parent} room 1' for name, parent in zip('abcdef', parents))
        for parents, line in ((['x'], 0), (['-', 'x', 'y'], 1), (['b', 'a'], 0), (['-', 'c', 'b', 'a'], 1),
                              (['c', '-', 'd', 'c'], 0), (['b', 'a', 'x'], 2), (['b', 'a', '-', 'f', 'x', 'd'], 4),
                              (['-', '-', 'd', 'e', 'c'], 2)):
            self.fault(tree_read, lines(*parents), line, 3)
        self.fault(tree_read, lines('x', 'a') + '\nfolder a', 2, 1)
        self.fault(tree_read, lines('b', 'a') + '\nfolder c in - room', 2, 5)

    def test_signs_that_look_like_digits_or_letters(self):
        for word in ('\u0661', '\u00b2', '\uff11'):
            self.fault(stand_read, word, 0, 0)
        self.fault(move_read, '\u00e9>a', 0, 0)
        self.fault(tree_read, 'folder \u00e9 in - room 1', 0, 1)


class RandomTexts(unittest.TestCase):

    def tried(self, call, plain_call, text):
        found = plain_call(text)
        if found[:1] and found[0].__class__ is int:
            refuses(self, InvalidText, {'line': found[0], 'field': found[1]}, call, text)
            return 1
        gives(self, found, call, text)
        return 0

    def test_trees(self):
        pick = random.Random(25)
        faults = 0
        for _ in range(3000):
            text = plaintexts.changed(pick, tree_text(plain.some_tree(pick, plain.SIX)))
            faults += self.tried(tree_read, plaintexts.tree_text_fault, text)
        self.assertIn(faults, range(1000, 2990))

    def test_trees_with_other_parents(self):
        pick = random.Random(26)
        for _ in range(1000):
            rows = [f'folder {name} in {pick.choice(["-", *plain.SIX])} room 1' for name in plain.SIX[:pick.randrange(1, 7)]]
            self.tried(tree_read, plaintexts.tree_text_fault, '\n'.join(rows))

    def test_lots(self):
        pick = random.Random(27)
        faults = 0
        for _ in range(3000):
            text = plaintexts.changed(pick, lot_words(plain.some_moves(pick, TREE, 5)))
            faults += self.tried(lot_read, plaintexts.lot_text_fault, text)
        self.assertIn(faults, range(1000, 2990))

    def test_stands(self):
        pick = random.Random(28)
        for _ in range(3000):
            text = plaintexts.changed(pick, stand_words(tuple(pick.randrange(30) for _ in range(pick.randrange(1, 5)))))
            words = text.split(' ')
            wrong = [field for field, word in enumerate(words) if not re.fullmatch(plaintexts.NUMBER, word)]
            if wrong:
                refuses(self, InvalidText, {'line': 0, 'field': wrong[0]}, stand_read, text)
            else:
                gives(self, tuple(int(word) for word in words), stand_read, text)

    def test_moves(self):
        pick = random.Random(29)
        for _ in range(3000):
            text = plaintexts.changed(pick, move_words(tuple(pick.sample(['', 'a', 'b', 'top'], 2))))
            words = text.split(' ')
            first = plaintexts.lot_of(words[0]) or None
            if first is None or len(words) > 1:
                refuses(self, InvalidText, {'line': 0, 'field': 0 if first is None else 1}, move_read, text)
            else:
                gives(self, first[0], move_read, text)


if __name__ == '__main__':
    unittest.main()
