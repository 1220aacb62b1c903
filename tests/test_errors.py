"""Point 10 and the interface: the errors."""

import unittest

from support import ODD, Other, parameters

from roomrings import errors

FAMILIES = {
    'PaperError': {'InvalidPaper': ('word', 'at')},
    'TreeError': {'NotUsable': ('word', 'at')},
    'MovingError': {'InvalidEvent': ('event', 'reason'), 'NothingToUndo': ('steps',), 'Barred': ('event', 'folders')},
    'TextError': {'InvalidText': ('line', 'field'), 'InvalidRow': ('row',)},
}
ALL = [(family, name, fields) for family, kinds in FAMILIES.items() for name, fields in kinds.items()]


class Loud:
    """An object that does not bear being looked at."""

    def __getattribute__(self, name):
        raise AssertionError(name)

    def __eq__(self, other):
        raise AssertionError('==')

    def __repr__(self):
        raise AssertionError('repr')


class Errors(unittest.TestCase):

    def test_families(self):
        self.assertEqual(errors.RoomError.__bases__, (ValueError,))
        for family in FAMILIES:
            self.assertEqual(getattr(errors, family).__bases__, (errors.RoomError,))

    def test_each_error_derives_directly_from_its_family(self):
        for family, name, _ in ALL:
            self.assertEqual(getattr(errors, name).__bases__, (getattr(errors, family),), name)

    def test_there_are_no_other_errors(self):
        names = {name for name, thing in vars(errors).items() if isinstance(thing, type)}
        self.assertEqual(names, {'RoomError', *FAMILIES, *[name for _, name, _ in ALL]})

    def test_parameters(self):
        for _, name, fields in ALL:
            self.assertEqual(parameters(getattr(errors, name)), list(fields))

    def test_fields_by_place_are_the_very_objects(self):
        for _, name, fields in ALL:
            for thing in [*ODD, Other(), Loud()]:
                things = [thing, object()][:len(fields)]
                error = getattr(errors, name)(*things)
                self.assertEqual(list(vars(error)), list(fields))
                for field, given in zip(fields, things):
                    self.assertIs(vars(error)[field], given)

    def test_fields_by_name_in_another_order(self):
        for _, name, fields in ALL:
            things = {field: object() for field in reversed(fields)}
            error = getattr(errors, name)(**things)
            self.assertEqual(set(vars(error)), set(fields))
            for field in fields:
                self.assertIs(getattr(error, field), things[field])

    def test_no_field_less_or_more(self):
        for _, name, fields in ALL:
            for many in (0, len(fields) - 1, len(fields) + 1):
                with self.assertRaises(TypeError):
                    getattr(errors, name)(*range(many))

    def test_each_can_be_raised_and_caught_by_its_family(self):
        for family, name, fields in ALL:
            with self.assertRaises(getattr(errors, family)) as caught:
                raise getattr(errors, name)(*fields)
            self.assertIs(caught.exception.__class__, getattr(errors, name))
            self.assertIsInstance(caught.exception, ValueError)


if __name__ == '__main__':
    unittest.main()
