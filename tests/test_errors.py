import unittest

from restballots import errors
from tests.samples import odd_values

GIVEN = [
    "InvalidText", "InvalidDivisors", "InvalidTable", "InvalidBloc", "InvalidNumber", "InvalidIndex", "InvalidName",
    "InvalidCounts", "InvalidChange", "InvalidDemand", "NotANight", "OtherSeats",
]
INDEX = ["InvalidParties", "InvalidPiles", "InvalidChanges", "InvalidDemands"]
BASES = {"BadValue": ValueError, "BadName": LookupError, "NoAnswer": ArithmeticError}
FAMILIES = {
    "BadValue": GIVEN + INDEX, "BadName": ["UnknownName", "InUse"], "NoAnswer": ["NothingToUndo", "Broken"],
}
ATTRIBUTES = {
    **{name: "given" for name in GIVEN + ["UnknownName"]}, **{name: "index" for name in INDEX + ["InUse", "Broken"]},
}


def named(name):
    return getattr(errors, name)


class FamilyTest(unittest.TestCase):
    def test_base_classes_belong_to_one_class_of_python(self):
        for name, python in BASES.items():
            with self.subTest(name=name):
                self.assertEqual(named(name).__mro__, (named(name),) + python.__mro__)

    def test_each_class_belongs_to_its_base_class_and_to_no_other(self):
        for base, names in FAMILIES.items():
            for name in names:
                with self.subTest(name=name):
                    kind = named(name)
                    self.assertEqual(kind.__mro__, (kind,) + named(base).__mro__)

    def test_each_class_is_caught_by_its_base_classes(self):
        for base, names in FAMILIES.items():
            for name in names:
                for kind in (named(base), BASES[base]):
                    with self.subTest(name=name, kind=kind), self.assertRaises(kind):
                        raise named(name)(*([5] if name in ATTRIBUTES else []))

    def test_names_and_files(self):
        for name in list(BASES) + list(ATTRIBUTES) + ["NothingToUndo"]:
            with self.subTest(name=name):
                self.assertEqual(named(name).__name__, name)
                self.assertEqual(named(name).__module__, "restballots.errors")


class AttributeTest(unittest.TestCase):
    def test_made_by_position_and_by_name_with_any_value(self):
        for name, attribute in ATTRIBUTES.items():
            for value in odd_values() + [0, 7, "red", (1, 2), "x" * 8000, 10 ** 39]:
                with self.subTest(name=name, kind=type(value)):
                    self.assertIs(getattr(named(name)(value), attribute), value)
                    self.assertIs(getattr(named(name)(**{attribute: value}), attribute), value)

    def test_each_object_has_its_own_attribute(self):
        for name, attribute in ATTRIBUTES.items():
            with self.subTest(name=name):
                one = named(name)(1)
                other = named(name)(2)
                self.assertEqual((getattr(one, attribute), getattr(other, attribute)), (1, 2))

    def test_the_attribute_must_be_passed(self):
        for name in ATTRIBUTES:
            with self.subTest(name=name), self.assertRaises(TypeError):
                named(name)()

    def test_no_other_attribute(self):
        for name, attribute in ATTRIBUTES.items():
            with self.subTest(name=name):
                self.assertFalse(hasattr(named(name)(1), {"given": "index", "index": "given"}[attribute]))

    def test_made_without_an_attribute(self):
        for name in list(BASES) + ["NothingToUndo"]:
            with self.subTest(name=name):
                error = named(name)()
                self.assertIs(type(error), named(name))
                self.assertFalse(hasattr(error, "given"))
                self.assertFalse(hasattr(error, "index"))
                with self.assertRaises(named(name)):
                    raise error

    def test_methods_stand_in_the_class_itself(self):
        for name in ATTRIBUTES:
            with self.subTest(name=name):
                self.assertIn("__init__", vars(named(name)))


class EqualityTest(unittest.TestCase):
    def test_true(self):
        for name in list(BASES) + ["NothingToUndo"]:
            self.assertIs(bool(named(name)()), True)
        for name in ATTRIBUTES:
            for value in (0, 1, None, ()):
                self.assertIs(bool(named(name)(value)), True)

    def test_equal_to_itself_only(self):
        for name in ATTRIBUTES:
            error = named(name)(3)
            with self.subTest(name=name):
                self.assertIs(error == error, True)
                for other in (named(name)(3), 3, "3", None, (3,), ValueError(3), named("NothingToUndo")()):
                    self.assertIs(error == other, False)
                    self.assertIs(other == error, False)
                    self.assertIs(error != other, True)


if __name__ == "__main__":
    unittest.main()
