import unittest

from holdtap import errors
from holdtap.errors import HoldError, InvalidLayout, InvalidRecord

PLAIN = [
    "InvalidKey", "InvalidTick", "InvalidPlace", "InvalidGap", "InvalidChoice", "InvalidWishes",
    "InvalidLate", "InvalidCodes", "InvalidBounds", "InvalidCommand", "NothingToUndo",
]
FIELDS = {
    "InvalidLayout": ["layer", "key"],
    "InvalidRecord": ["index"],
    "InvalidOrder": ["index"],
    "InvalidCombos": ["index"],
    "InvalidText": ["line", "word"],
    "TooLarge": ["limit"],
}


class TestErrors(unittest.TestCase):
    def test_there_are_seventeen(self):
        own = [
            name for name, thing in vars(errors).items()
            if isinstance(thing, type) and issubclass(thing, HoldError) and thing is not HoldError
        ]
        self.assertEqual(sorted(own), sorted(PLAIN + list(FIELDS)))
        self.assertEqual(len(own), 17)

    def test_bases(self):
        self.assertEqual(HoldError.__bases__, (ValueError,))
        for name in PLAIN + list(FIELDS):
            with self.subTest(name):
                self.assertEqual(getattr(errors, name).__bases__, (HoldError,))
                self.assertEqual(getattr(errors, name).__module__, "holdtap.errors")

    def test_errors_with_one_string(self):
        for name in PLAIN:
            error = getattr(errors, name)
            for base in (error, HoldError, ValueError):
                with self.subTest(name, base=base):
                    with self.assertRaises(base) as caught:
                        raise error("what is wrong")
                    self.assertIs(caught.exception.__class__, error)
                    self.assertEqual(str(caught.exception), "what is wrong")

    def test_errors_with_fields_by_position(self):
        for name, fields in FIELDS.items():
            error = getattr(errors, name)
            values = [3, 7][:len(fields)]
            for base in (error, HoldError, ValueError):
                with self.subTest(name, base=base):
                    with self.assertRaises(base) as caught:
                        raise error(*values)
                    self.assertIs(caught.exception.__class__, error)
                    self.assertEqual(vars(caught.exception), dict(zip(fields, values)))

    def test_errors_with_fields_by_name(self):
        for name, fields in FIELDS.items():
            values = dict(zip(fields, [5, 2]))
            with self.subTest(name):
                self.assertEqual(vars(getattr(errors, name)(**values)), values)

    def test_fields_can_be_none(self):
        for name, fields in FIELDS.items():
            with self.subTest(name):
                error = getattr(errors, name)(*[None for _ in fields])
                self.assertEqual(vars(error), dict.fromkeys(fields))

    def test_fields_must_all_be_passed(self):
        for name, fields in FIELDS.items():
            with self.subTest(name):
                with self.assertRaises(TypeError):
                    getattr(errors, name)(*range(len(fields) - 1))
                with self.assertRaises(TypeError):
                    getattr(errors, name)(*range(len(fields) + 1))

    def test_each_object_has_its_own_fields(self):
        first, second = InvalidLayout(1, 2), InvalidLayout(None, None)
        self.assertEqual((first.layer, first.key, second.layer, second.key), (1, 2, None, None))

    def test_an_error_is_not_caught_as_another_one(self):
        with self.assertRaises(InvalidRecord):
            try:
                raise InvalidRecord(4)
            except InvalidLayout:
                self.fail("caught as another error")


if __name__ == "__main__":
    unittest.main()
