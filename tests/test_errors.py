import unittest

from overlapturns import errors

# For each class of errors: its base class and its attributes, in their order.
WITH_GIVEN = ("given",)
LISTED = {
    "InvalidText": ("WrongValue", WITH_GIVEN),
    "InvalidNumber": ("WrongValue", WITH_GIVEN),
    "InvalidArray": ("WrongValue", WITH_GIVEN),
    "InvalidCost": ("WrongValue", WITH_GIVEN),
    "InvalidName": ("WrongValue", WITH_GIVEN),
    "InvalidWish": ("WrongValue", WITH_GIVEN),
    "NotALoop": ("WrongValue", WITH_GIVEN),
    "NotAProgram": ("WrongValue", WITH_GIVEN),
    "NotAWorld": ("WrongValue", WITH_GIVEN),
    "NotACounts": ("WrongValue", WITH_GIVEN),
    "NotAForm": ("WrongValue", WITH_GIVEN),
    "NotCosts": ("WrongValue", WITH_GIVEN),
    "UnknownInput": ("WrongMoment", WITH_GIVEN),
    "OtherWords": ("WrongMoment", WITH_GIVEN),
    "OtherOuts": ("WrongMoment", WITH_GIVEN),
    "NotRight": ("WrongMoment", ("count", "where")),
    "TooFar": ("WrongMoment", WITH_GIVEN),
    "UnknownName": ("WrongMoment", WITH_GIVEN),
    "InUse": ("WrongMoment", ("index",)),
    "NothingToUndo": ("WrongMoment", ()),
    "NotKept": ("WrongMoment", ("index", "shown")),
}
BASES = {"WrongValue": ValueError, "WrongMoment": LookupError}


def things():
    return [
        0, 1, -1, 10 ** 39, -(10 ** 39), "", "in k\nx = f k", (), (1, ("cell", "A", -3)), [], [1, [2]],
        {}, {"a": [1]}, None, True, False,
    ]


class ErrorsTest(unittest.TestCase):
    def check_kept(self, error, attributes, values):
        self.assertEqual(sorted(vars(error)), sorted(attributes))
        for attribute, value in zip(attributes, values):
            self.assertIs(getattr(error, attribute), value)

    def test_attributes_are_kept_by_place_and_by_name(self):
        for name, (_, attributes) in LISTED.items():
            made = getattr(errors, name)
            for thing in things():
                for other in things():
                    values = (thing, other)[:len(attributes)]
                    with self.subTest(name=name, values=values):
                        self.check_kept(made(*values), attributes, values)
                        self.check_kept(made(**dict(zip(attributes, values))), attributes, values)

    def test_names_may_stand_in_any_order(self):
        wrong = errors.NotRight(where=("out", 0), count=3)
        self.assertEqual((wrong.count, wrong.where), (3, ("out", 0)))
        kept = errors.NotKept(shown=(1, ("out", 0)), index=2)
        self.assertEqual((kept.index, kept.shown), (2, (1, ("out", 0))))
        mixed = errors.NotKept(2, shown=None)
        self.assertEqual((mixed.index, mixed.shown), (2, None))

    def test_what_is_handed_over_is_not_changed(self):
        for name, (_, attributes) in LISTED.items():
            values = ([1, [2]], {"a": [1]})[:len(attributes)]
            getattr(errors, name)(*values)
            with self.subTest(name=name):
                self.assertEqual(values, ([1, [2]], {"a": [1]})[:len(attributes)])

    def test_nothing_to_undo_has_no_attributes(self):
        self.assertEqual(vars(errors.NothingToUndo()), {})

    def test_base_classes_stand_under_pythons_own(self):
        for name, above in BASES.items():
            with self.subTest(name=name):
                self.assertEqual(getattr(errors, name).__bases__, (above,))
                self.assertIsInstance(getattr(errors, name)(), above)

    def test_each_class_has_its_one_base(self):
        for name, (base, _) in LISTED.items():
            with self.subTest(name=name):
                self.assertEqual(getattr(errors, name).__bases__, (getattr(errors, base),))

    def test_each_class_is_of_no_other_one(self):
        listed = {name: getattr(errors, name) for name in list(LISTED) + list(BASES)}
        for name, made in listed.items():
            above = {name, LISTED[name][0]} if name in LISTED else {name}
            for other, asked in listed.items():
                with self.subTest(name=name, other=other):
                    self.assertEqual(issubclass(made, asked), other in above)

    def test_each_class_is_under_one_of_pythons_own_alone(self):
        for name, (base, _) in LISTED.items():
            made = getattr(errors, name)
            with self.subTest(name=name):
                self.assertEqual(issubclass(made, ValueError), base == "WrongValue")
                self.assertEqual(issubclass(made, LookupError), base == "WrongMoment")

    def test_raised_and_caught_by_each_name_above(self):
        for name, (base, attributes) in LISTED.items():
            values = ((1, "a"), None)[:len(attributes)]
            made = getattr(errors, name)
            for caught in (made, getattr(errors, base), BASES[base]):
                with self.subTest(name=name, caught=caught.__name__):
                    with self.assertRaises(caught) as held:
                        raise made(*values)
                    self.assertIs(type(held.exception), made)
                    self.check_kept(held.exception, attributes, values)

    def test_equal_errors_are_still_two(self):
        self.assertFalse(errors.InvalidNumber(3) == errors.InvalidNumber(3))
        self.assertTrue(errors.InvalidNumber(3) != errors.InvalidNumber(3))


if __name__ == "__main__":
    unittest.main()
