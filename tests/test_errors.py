import unittest

from busfind import errors

PLAIN = (
    "BadWidth", "BadNumber", "BadKind", "BadBit", "There", "NotThere", "NoRound",
    "Over", "Busy", "BadRoster", "TooMany", "BadPlan",
)
CARRYING = (("BadLooks", "number"), ("BadStep", "number"), ("BadText", "row"))
NAMES = PLAIN + tuple(name for name, _ in CARRYING)


class ErrorsTest(unittest.TestCase):
    def test_bus_error_is_a_value_error(self):
        self.assertEqual(errors.BusError.__bases__, (ValueError,))

    def test_each_stands_directly_under_bus_error(self):
        for name in NAMES:
            with self.subTest(name):
                kind = getattr(errors, name)
                self.assertEqual(kind.__bases__, (errors.BusError,))
                self.assertEqual((kind.__name__, kind.__module__), (name, "busfind.errors"))
                self.assertTrue(issubclass(kind, ValueError))

    def test_none_is_under_another(self):
        kinds = [getattr(errors, name) for name in NAMES]
        for one in kinds:
            for other in kinds:
                self.assertEqual(issubclass(one, other), one is other)

    def test_plain_ones_can_be_raised_and_caught(self):
        for name in PLAIN:
            with self.subTest(name):
                kind = getattr(errors, name)
                with self.assertRaises(errors.BusError) as caught:
                    raise kind("why")
                self.assertIs(type(caught.exception), kind)

    def test_some_carry_a_value(self):
        for name, carried in CARRYING:
            for value in (0, 7, 200):
                with self.subTest(name, value=value):
                    kind = getattr(errors, name)
                    with self.assertRaises(kind) as caught:
                        raise kind(value)
                    self.assertEqual(getattr(caught.exception, carried), value)

    def test_two_of_one_class_keep_their_own_values(self):
        for name, carried in CARRYING:
            kind = getattr(errors, name)
            first, second = kind(1), kind(2)
            self.assertEqual([getattr(first, carried), getattr(second, carried)], [1, 2])


if __name__ == "__main__":
    unittest.main()
