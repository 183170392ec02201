import unittest

from facestead.errors import FaceError, NoClient, NoFace, NoMake, NoText

REFUSALS = [NoFace, NoText, NoClient, NoMake]


class Errors(unittest.TestCase):
    def test_each_is_made_of_one_value_and_tells_it(self):
        for error in [FaceError] + REFUSALS:
            for value in [0, 7]:
                self.assertEqual(error(value).at, value)

    def test_each_stands_under_face_error_and_value_error(self):
        self.assertTrue(issubclass(FaceError, ValueError))
        for error in REFUSALS:
            self.assertTrue(issubclass(error, FaceError))
            with self.assertRaises(FaceError) as caught:
                raise error(3)
            self.assertEqual(caught.exception.at, 3)

    def test_none_stands_under_another_one(self):
        for error in REFUSALS:
            self.assertFalse(issubclass(FaceError, error))
            for other in REFUSALS:
                self.assertEqual(issubclass(error, other), error is other)


if __name__ == "__main__":
    unittest.main()
