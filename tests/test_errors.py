"""[10] and the section errors."""

from orderless import errors
from tests.samples import Case

FAMILIES = {
    errors.PaperError: ((errors.InvalidPaper, ("word", "at")),),
    errors.ProgramError: (
        (errors.UnknownRule, ("name",)),
        (errors.UnknownCell, ("name",)),
        (errors.InvalidStep, ("step", "reason")),
        (errors.InvalidInput, ("value",)),
        (errors.NothingToUndo, ("steps",)),
    ),
    errors.TextError: ((errors.InvalidText, ("line", "field")), (errors.InvalidCommand, ("text",))),
}


class Unfriendly:
    """Fails when it is looked at."""

    def __eq__(self, other):
        raise AssertionError

    def __repr__(self):
        raise AssertionError

    def __bool__(self):
        raise AssertionError

    def __len__(self):
        raise AssertionError


class ErrorsTest(Case):
    def each(self):
        for family, members in FAMILIES.items():
            for member, names in members:
                with self.subTest(member.__name__):
                    yield family, member, names

    def test_there_are_eight(self):
        self.assertEqual(len(list(self.each())), 8)

    def test_families(self):
        self.assertTrue(issubclass(errors.OrderError, ValueError))
        self.assertEqual(errors.OrderError.__bases__, (ValueError,))
        for family in FAMILIES:
            self.assertEqual(family.__bases__, (errors.OrderError,))
        for family, member, _ in self.each():
            self.assertEqual(member.__bases__, (family,))
            for other in FAMILIES:
                self.assertEqual(issubclass(member, other), other is family)

    def test_by_position_and_by_name(self):
        for _, member, names in self.each():
            values = [[name] for name in names]
            for error in (member(*values), member(**dict(zip(names, values)))):
                self.assertEqual(list(vars(error)), list(names))
                for name, value in zip(names, values):
                    self.assertIs(getattr(error, name), value)

    def test_any_values_are_kept_unseen(self):
        for _, member, names in self.each():
            values = [Unfriendly() for _ in names]
            for error in (member(*values), member(**dict(zip(names, values)))):
                for name, value in zip(names, values):
                    self.assertIs(getattr(error, name), value)

    def test_wrong_numbers_of_arguments(self):
        for _, member, names in self.each():
            self.assertRaises(TypeError, member, *names[:-1])
            self.assertRaises(TypeError, member, *names, 1)
            self.assertRaises(TypeError, member, **dict.fromkeys(names, 1), more=1)

    def test_caught_by_each_base(self):
        for family, member, names in self.each():
            for base in (member, family, errors.OrderError, ValueError):
                with self.assertRaises(base):
                    raise member(*names)
