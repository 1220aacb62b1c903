"""The interface of the document: every name in its module, with its parameters, and the errors with their fields."""

import importlib
import inspect
import pathlib
import unittest

from support import Other, parameters

FUNCTIONS = {
    'kinds': {name: 'thing' for name in ('is_integer', 'is_number', 'is_name', 'is_spot', 'is_folder', 'is_move', 'is_moves',
                                         'is_bulk')},
    'treechecker': {'lets_tree': 'thing'},
    'treeparts': {'room_of': 'tree folder', 'parent_of': 'tree folder', 'way_up': 'tree spot', 'within': 'tree folder',
                  'outermost': 'tree'},
    'standchecker': {'lets_stand': 'tree thing'},
    'stands': {'files_in': 'tree stand folder', 'used': 'tree stand folder', 'free': 'tree stand folder',
               'full_folders': 'tree stand'},
    'lotchecker': {'lets_lot': 'tree stand thing'},
    'lots': {'lot_with': 'tree stand lot move', 'lot_without': 'tree stand lot move'},
    'treechanges': {'with_room': 'tree folder room', 'renamed': 'tree *pairs', 'renamed_stand': 'tree stand *pairs',
                    'renamed_lot': 'lot *pairs'},
    'treetexts': {'tree_text': 'tree', 'stand_words': 'stand', 'move_words': 'move', 'lot_words': 'lot'},
    'treereadings': {'tree_read': 'text', 'stand_read': 'text', 'move_read': 'text', 'lot_read': 'text'},
    'crossings': {'entered': 'tree move', 'left_by': 'tree move', 'entering': 'tree lot folder',
                  'leaving': 'tree lot folder'},
    'moving': {'can_move': 'tree stand move', 'after_move': 'tree stand move', 'movable': 'tree stand lot',
               'after_moves': 'tree stand moves'},
    'ends': {'end_counts': 'tree stand lot', 'fits': 'tree stand lot', 'misfits': 'tree stand lot'},
    'everyorder': {'every_order': 'tree stand lot', 'refused_order': 'tree stand lot', 'room_for_end': 'tree stand lot',
                   'room_for_every': 'tree stand lot'},
    'rings': {'is_ring': 'tree stand lot thing', 'greatest_ring': 'tree stand lot', 'inner_rings': 'tree stand lot'},
    'goers': {'all_go': 'tree stand lot', 'an_order': 'tree stand lot'},
    'lotpapers': {'lot_paper': 'tree stand lot'},
    'lotjudge': {'lets_all': 'tree stand lot thing'},
    'guarding': {'is_let': 'tree stand lot move', 'let_moves': 'tree stand lot'},
    'bulkchecker': {'lets_bulks': 'tree stand thing'},
    'bulks': {'bulks_of': 'lot', 'all_bulks_go': 'tree stand bulks', 'bulks_ring': 'tree stand bulks'},
    'asides': {'fewest_aside': 'tree stand lot', 'aside_plan': 'tree stand lot'},
    'asidepapers': {'aside_paper': 'tree stand lot'},
    'asidechecker': {'lets_aside': 'tree stand lot thing'},
    'widening': {'fewest_widened': 'tree stand lot', 'rings_apart': 'tree stand lot'},
    'turning': {'turned_lot': 'lot', 'turned_stand': 'tree stand lot'},
    'widepapers': {'wide_paper': 'tree stand lot'},
    'widechecker': {'lets_wide': 'tree stand lot thing'},
    'askchecker': {'lets_asked': 'tree stand lot thing'},
    'asking': {'held_in': 'tree stand lot asked folder', 'can_ask': 'tree stand lot asked move',
               'can_finish': 'tree stand lot asked', 'finishing': 'tree stand lot asked'},
    'logkinds': {'is_log': 'thing'},
    'through': {'moved_through': 'moving events'},
    'replaying': {'replayed': 'log'},
    'eventtexts': {'event_line': 'event', 'log_lines': 'log'},
    'eventreadings': {'read_event': 'line', 'read_log': 'lines'},
}
# The parameters of each class, its methods with theirs, and its properties.
CLASSES = {
    'trees': {'Tree': ('*rows', {'of': 'tree', 'read': 'text', 'flat': '*names room=2', '__getitem__': 'at',
                                 '__contains__': 'x', '__len__': '', '__iter__': '', '__eq__': 'other', '__str__': '',
                                 '__add__': 'other', '__sub__': 'other'}, 'tree bearing')},
    'shelves': {'Shelf': ('tree *numbers', {'of': 'tree stand', 'read': 'tree text', '__getitem__': 'at',
                                            '__contains__': 'x', '__len__': '', '__iter__': '', '__eq__': 'other',
                                            '__str__': '', '__add__': 'other', '__sub__': 'other'}, 'tree stand files')},
    'orders': {'Order': ('tree stand *moves', {'along': 'tree stand moves', 'stand_after': 'k', 'exchanged': 'k',
                                               '__len__': '', '__eq__': 'other', '__iter__': ''},
                         'tree start moves stand heights refused')},
    'levels': {name: ('tree stand', {'holds': 'lot', 'shown': 'lot', '__eq__': 'other'}, 'tree stand')
               for name in ('Ends', 'Some', 'Every')},
    'movings': {'Moving': ('tree stand lot', {
        'state': '', 'ring_now': '', 'inner_now': '', 'go': 'source target', 'put_out': 'source target',
        'bring': 'source target', 'apply': 'event', '__call__': 'event', 'barred': 'event', 'tried': '*events', 'undo': '',
        'do_all': '*events keep=False', 'tally': '', 'log': '', 'shut': '', '__enter__': '', '__exit__': '*told',
        '__contains__': 'x', '__len__': '', '__eq__': 'other'}, 'tree stand left away rest is_shut')},
    'guarded': {'Guarded': ('tree stand lot', {'barred': 'event'}, '')},
    'desk': {'Desk': ('', {'say': 'row', 'counts': ''}, '')},
}
FAMILIES = {
    'PaperError': {'InvalidPaper': 'word at'},
    'TreeError': {'NotUsable': 'word at'},
    'MovingError': {'InvalidEvent': 'event reason', 'NothingToUndo': 'steps', 'Barred': 'event folders'},
    'TextError': {'InvalidText': 'line field', 'InvalidRow': 'row'},
}


def module(name):
    return importlib.import_module(f'roomrings.{name}')


class Interface(unittest.TestCase):

    def test_functions(self):
        for where, calls in FUNCTIONS.items():
            for name, names in calls.items():
                call = vars(module(where))[name]
                self.assertTrue(inspect.isfunction(call), name)
                self.assertEqual([call.__module__, call.__name__], [f'roomrings.{where}', name])
                self.assertEqual(parameters(call), names.split(), name)

    def test_classes(self):
        for where, classes in CLASSES.items():
            for name, (names, methods, properties) in classes.items():
                made = vars(module(where))[name]
                self.assertTrue(inspect.isclass(made), name)
                self.assertEqual([made.__module__, made.__name__], [f'roomrings.{where}', name])
                self.assertEqual(parameters(made), names.split(), name)
                self.assertIn('__init__', vars(made))
                for word, its in methods.items():
                    self.assertIn(word, vars(made), name)
                    found = vars(made)[word]
                    found = found if inspect.isfunction(found) else found.__func__
                    first = [] if isinstance(vars(made)[word], staticmethod) else [parameters(found)[0]]
                    self.assertEqual(parameters(found), first + its.split(), f'{name}.{word}')
                for word in properties.split():
                    self.assertIsInstance(vars(made)[word], property, f'{name}.{word}')

    def test_errors(self):
        errors = module('errors')
        self.assertEqual(errors.RoomError.__bases__, (ValueError,))
        told = {'RoomError'}
        for family, members in FAMILIES.items():
            self.assertEqual(vars(errors)[family].__bases__, (errors.RoomError,))
            told |= {family, *members}
            for name, fields in members.items():
                made, names = vars(errors)[name], fields.split()
                self.assertEqual([made.__bases__, parameters(made)], [(vars(errors)[family],), names])
                values = [Other() for _ in names]
                for error in (made(*values), made(**dict(reversed(list(zip(names, values)))))):
                    self.assertEqual(vars(error), dict(zip(names, values)))
                    for word, value in zip(names, values):
                        self.assertIs(getattr(error, word), value)
                for count in (len(names) - 1, len(names) + 1):
                    with self.assertRaises(TypeError):
                        made(*[None] * count)
        self.assertEqual({name for name, thing in vars(errors).items() if inspect.isclass(thing)}, told)
        for name in told:
            self.assertEqual(vars(errors)[name].__module__, 'roomrings.errors')

    def test_the_package_is_one_folder(self):
        folder = pathlib.Path(__file__).resolve().parent.parent / 'roomrings'
        there = {path.stem for path in folder.glob('*.py')}
        self.assertLessEqual({'__init__', 'errors', *FUNCTIONS, *CLASSES}, there)


if __name__ == '__main__':
    unittest.main()
