"""Point 7: the error classes, and that they are what the table tells."""

from tests.support import Case
from turnbehind import errors

TABLE = {
    "BadName": ("name",),
    "BadNumber": ("number",),
    "BadSize": ("what", "size"),
    "Repeated": ("name",),
    "Unknown": ("what", "name"),
    "BadEnd": ("way", "place"),
    "NoWalker": ("place",),
    "Occupied": ("place",),
    "Unlike": ("what",),
    "Named": ("names",),
    "TooLarge": ("what", "size"),
    "NoDeed": ("index", "way", "cause"),
    "BadText": ("at",),
    "NoRun": ("at", "cause"),
    "NothingLeft": (),
    "BadClaim": (),
    "BadRow": ("index",),
}

VALUES = [None, True, False, 0, 7, -3, "", "text", (), (1, ("a", None)), 10 ** 19]


class Errors(Case):
    def test_root(self):
        self.assertEqual(errors.TurnError.__bases__, (ValueError,))

    def test_all_classes_stand_directly_under_the_root(self):
        own = [name for name in vars(errors) if isinstance(getattr(errors, name), type)]
        self.assertEqual(sorted(own), sorted([*TABLE, "TurnError"]))
        for name in TABLE:
            with self.subTest(name=name):
                self.assertEqual(getattr(errors, name).__bases__, (errors.TurnError,))
                self.assertEqual(getattr(errors, name).__module__, "turnbehind.errors")

    def test_attributes_by_position_and_by_name(self):
        for name, attributes in TABLE.items():
            for shift in range(len(VALUES)):
                values = [VALUES[(shift + at) % len(VALUES)] for at in range(len(attributes))]
                wanted = dict(zip(attributes, values))
                with self.subTest(name=name, values=values):
                    self.same(vars(getattr(errors, name)(*values)), wanted)
                    self.same(vars(getattr(errors, name)(**wanted)), wanted)

    def test_values_are_kept_as_they_were_given(self):
        names = ("b", "a", "b")
        self.assertIs(errors.Named(names).names, names)
        self.assertIs(errors.NoRun(names, True).cause, True)
        self.assertIs(errors.NoRun(names, True).at, names)

    def test_too_many_and_too_few_attributes(self):
        for name, attributes in TABLE.items():
            for count in (len(attributes) - 1, len(attributes) + 1):
                if count >= 0 and attributes:
                    with self.subTest(name=name, count=count), self.assertRaises(TypeError):
                        getattr(errors, name)(*VALUES[:count])

    def test_errors_can_be_raised_and_caught(self):
        for name, attributes in TABLE.items():
            made = getattr(errors, name)(*VALUES[:len(attributes)])
            with self.subTest(name=name), self.assertRaises(errors.TurnError) as caught:
                raise made
            self.assertIs(caught.exception, made)
