import unittest

from trellisway.errors import NoPlace, NoScheme, NoSigns, NoText, NoWord, WayError

REFUSALS = (NoText, NoScheme, NoWord, NoSigns, NoPlace)


class Errors(unittest.TestCase):
    def test_any_refusal_is_a_value_error(self):
        self.assertTrue(issubclass(WayError, ValueError))

    def test_each_refusal_is_a_way_error_and_a_value_error(self):
        for refusal in REFUSALS:
            with self.subTest(refusal=refusal.__name__):
                self.assertTrue(issubclass(refusal, WayError))
                self.assertTrue(issubclass(refusal, ValueError))
                self.assertIsNot(refusal, WayError)

    def test_no_refusal_stands_under_another(self):
        for one in REFUSALS:
            for other in REFUSALS:
                with self.subTest(one=one.__name__, other=other.__name__):
                    self.assertEqual(issubclass(one, other), REFUSALS.index(one) == REFUSALS.index(other))

    def test_each_is_raised_and_taken_by_its_name(self):
        for refusal in REFUSALS:
            for taken in (refusal, WayError, ValueError):
                with self.subTest(refusal=refusal.__name__, taken=taken.__name__):
                    with self.assertRaises(taken):
                        raise refusal("words")


if __name__ == "__main__":
    unittest.main()
