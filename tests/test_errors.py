import unittest

from bendfronts import errors

REFUSALS = (
    "NoHeights", "TooMany", "NoTable", "NoSetting", "NoBanding", "NoMove", "NoPaper", "NoText", "NoRow", "NoName",
)


class Errors(unittest.TestCase):
    def test_the_refusal_is_straight_under_value_error(self):
        self.assertEqual(errors.FrontError.__bases__, (ValueError,))

    def test_each_refusal_is_straight_under_front_error(self):
        for name in REFUSALS:
            with self.subTest(name):
                self.assertEqual(getattr(errors, name).__bases__, (errors.FrontError,))

    def test_each_refusal_can_be_raised_and_caught(self):
        for name in REFUSALS:
            with self.subTest(name), self.assertRaises(errors.FrontError) as caught:
                raise getattr(errors, name)("why")
            self.assertEqual(type(caught.exception).__name__, name)
            self.assertEqual(str(caught.exception), "why")

    def test_no_paper_tells_where(self):
        for where in ("paper", "set", "band", "none"):
            self.assertEqual(errors.NoPaper(where).where, where)


if __name__ == "__main__":
    unittest.main()
