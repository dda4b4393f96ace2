import unittest

from tests import samples
from twighall.errors import NoGround, NoText, NoTree, TwigError
from twighall.writing import written


class Writing(unittest.TestCase):
    def refused(self, thing):
        with self.assertRaises(NoGround) as taken:
            written(thing)
        self.assertNotIsInstance(taken.exception, (NoText, NoTree))

    def test_no_line(self):
        self.assertEqual(written(samples.LONE), "spots 1")
        self.assertEqual(written((7, ())), "spots 7")

    def test_one_line(self):
        self.assertEqual(written((2, ((0, 1, 0),))), "spots 2 line 0 1 0")
        self.assertEqual(written((7, ((5, 6, 1000),))), "spots 7 line 5 6 1000")

    def test_several_lines(self):
        self.assertEqual(written(samples.FORK), "spots 4 line 0 1 5 line 0 2 0 line 0 3 1000 line 1 2 7")
        self.assertEqual(written(samples.TWINS), "spots 2 line 0 1 3 line 0 1 3 line 0 1 4")

    def test_lines_keep_their_order(self):
        self.assertEqual(written((3, ((1, 2, 10), (0, 1, 9)))), "spots 3 line 1 2 10 line 0 1 9")

    def test_most_lines(self):
        expected = "spots 2" + " line 0 1 42" * 21
        self.assertEqual(written((2, ((0, 1, 42),) * 21)), expected)

    def test_every_length(self):
        for length in range(1001):
            self.assertEqual(written((3, ((1, 2, length),))), "spots 3 line 1 2 " + str(length))

    def test_no_ground(self):
        for thing in ((0, ()), (8, ()), (2, ((0, 1, 1),) * 22), (2, ((1, 0, 1),)), (2, ((0, 2, 1),)),
                      (2, ((0, 1, 1001),)), (2, ((0, 1, -1),)), (True, ()), (1, []), [1, ()], None, "spots 1"):
            self.refused(thing)

    def test_no_ground_in_any_place(self):
        for thing in samples.altered(samples.TWINS):
            if not samples.expect_ground(thing):
                self.refused(thing)

    def test_taken_as_twig_error_and_as_value_error(self):
        for taken in (TwigError, ValueError):
            with self.assertRaises(taken):
                written((8, ()))


if __name__ == "__main__":
    unittest.main()
