"""The classes of refusals."""

import unittest

from cellfolio import errors

NAMES = """BadPicture BadCell BadSize OutOfPlace BadText BadMask BadColour BadPalette NoColour TooMany BadRuns BadPack
BadRule BadEdge BadPart BadHead BadCheck NoPart Twice BadName BadDeed NoPicture NothingDone""".split()


class TestClasses(unittest.TestCase):

    def test_any_refusal_stands_under_value_error(self):
        self.assertEqual(errors.FolioError.__bases__, (ValueError,))
        self.assertEqual(errors.FolioError.__name__, "FolioError")

    def test_there_are_twenty_three(self):
        self.assertEqual(len(NAMES), 23)
        self.assertEqual(len({getattr(errors, name) for name in NAMES}), 23)

    def test_each_stands_straight_under_folio_error(self):
        for name in NAMES:
            with self.subTest(name=name):
                made = getattr(errors, name)
                self.assertEqual(made.__name__, name)
                self.assertEqual(made.__bases__, (errors.FolioError,))

    def test_none_stands_under_another_one(self):
        for name in NAMES:
            for other in NAMES:
                if name != other:
                    with self.subTest(name=name, other=other):
                        self.assertFalse(issubclass(getattr(errors, name), getattr(errors, other)))

    def test_each_can_be_raised_and_taken_as_any_refusal(self):
        for name in NAMES:
            if name != "BadCheck":
                with self.subTest(name=name):
                    with self.assertRaises(errors.FolioError) as caught:
                        raise getattr(errors, name)("words")
                    self.assertEqual(type(caught.exception).__name__, name)


class TestBadCheck(unittest.TestCase):

    def test_fields(self):
        with self.assertRaises(errors.BadCheck) as caught:
            raise errors.BadCheck(4092, 7)
        self.assertEqual(caught.exception.due, 4092)
        self.assertEqual(caught.exception.found, 7)

    def test_fields_of_two_objects(self):
        one = errors.BadCheck(1, 2)
        other = errors.BadCheck(3, 4)
        self.assertEqual((one.due, one.found, other.due, other.found), (1, 2, 3, 4))

    def test_fields_by_name(self):
        one = errors.BadCheck(found=5, due=0)
        self.assertEqual((one.due, one.found), (0, 5))

    def test_is_a_refusal(self):
        self.assertIsInstance(errors.BadCheck(0, 1), errors.FolioError)
        self.assertIsInstance(errors.BadCheck(0, 1), ValueError)


if __name__ == "__main__":
    unittest.main()
