import unittest

from twighall.errors import NoGround, NoText, NoTree, TwigError

REFUSALS = (NoGround, NoText, NoTree)


class Errors(unittest.TestCase):
    def test_bases(self):
        self.assertTrue(issubclass(TwigError, ValueError))
        for refusal in REFUSALS:
            self.assertTrue(issubclass(refusal, TwigError))
            self.assertIsNot(refusal, TwigError)

    def test_none_below_another(self):
        for one in REFUSALS:
            for other in REFUSALS:
                self.assertEqual(issubclass(one, other), one is other)

    def test_names(self):
        names = [kind.__name__ for kind in (TwigError,) + REFUSALS]
        self.assertEqual(names, ["TwigError", "NoGround", "NoText", "NoTree"])

    def test_taken_as_twig_error_and_as_value_error(self):
        for refusal in REFUSALS:
            for taken in (refusal, TwigError, ValueError):
                with self.assertRaises(taken):
                    raise refusal("so")


if __name__ == "__main__":
    unittest.main()
