"""[3]: the refusals, and which class stands under which."""

import unittest

from evenlots.errors import LotError, NoDeed, NoName, NoNumber, NoRow, NoText

REFUSALS = (NoNumber, NoDeed, NoText, NoName, NoRow)


class Errors(unittest.TestCase):
    def test_any_refusal_stands_straight_under_value_error(self):
        self.assertEqual(LotError.__bases__, (ValueError,))

    def test_each_refusal_stands_straight_under_lot_error(self):
        for refusal in REFUSALS:
            self.assertEqual(refusal.__bases__, (LotError,), refusal)

    def test_no_refusal_stands_under_another_one(self):
        for refusal in REFUSALS:
            under = [other for other in REFUSALS if issubclass(refusal, other)]
            self.assertEqual(under, [refusal])

    def test_names(self):
        self.assertEqual(
            [refusal.__name__ for refusal in (LotError,) + REFUSALS],
            ["LotError", "NoNumber", "NoDeed", "NoText", "NoName", "NoRow"],
        )

    def test_str_tells_the_text(self):
        for refusal in (LotError,) + REFUSALS:
            for text in ("hand 7 is none", "", " a\tb\nc ", "it's 'quoted' \\ {x} ~", "x" * 4000):
                self.assertEqual(str(refusal(text)), text, refusal)

    def test_one_refusal_is_not_taken_as_another_one(self):
        for refusal in REFUSALS:
            for other in REFUSALS:
                if other != refusal:
                    with self.assertRaises(refusal):
                        try:
                            raise refusal("no")
                        except other:
                            self.fail("taken as another one")


if __name__ == "__main__":
    unittest.main()
