"""Point [2]: the errors."""

import unittest

from commonage.errors import CommonageError, NotValid


class Errors(unittest.TestCase):
    def test_base_is_a_value_error(self):
        self.assertEqual(CommonageError.__bases__, (ValueError,))

    def test_not_valid_is_a_direct_subclass(self):
        self.assertEqual(NotValid.__bases__, (CommonageError,))

    def test_each_is_made_and_caught_without_an_argument(self):
        for kind in (CommonageError, NotValid):
            for caught in (kind, CommonageError, ValueError):
                with self.subTest(kind=kind, caught=caught):
                    with self.assertRaises(caught):
                        raise kind()

    def test_the_base_is_not_caught_as_not_valid(self):
        self.assertNotIsInstance(CommonageError(), NotValid)

    def test_none_takes_an_argument(self):
        for kind in (CommonageError, NotValid):
            for arguments in (("wrong",), (1,), (None,), ("wrong", 1)):
                with self.subTest(kind=kind, arguments=arguments):
                    with self.assertRaises(TypeError):
                        kind(*arguments)


if __name__ == "__main__":
    unittest.main()
