import unittest

from tests import samples
from twighall.counting import count_trees, trees
from twighall.things import is_tree

SQUARE = (4, ((0, 1, 1), (1, 2, 1), (2, 3, 1), (0, 3, 1), (0, 1, 8)))


class Counting(unittest.TestCase):
    def assert_trees(self, ground, expected):
        found = trees(ground)
        self.assertEqual(found, expected)
        self.assertTrue(samples.is_made_of_tuples(found))
        self.assert_count(ground, len(expected))

    def assert_count(self, ground, expected):
        count = count_trees(ground)
        self.assertEqual(count, expected)
        self.assertIs(type(count), int)

    def test_one_spot(self):
        self.assert_trees(samples.LONE, ((),))

    def test_two_spots(self):
        self.assert_trees((2, ()), ())
        self.assert_trees((2, ((0, 1, 0),)), ((0,),))
        self.assert_trees(samples.TWINS, ((0,), (1,), (2,)))
        self.assert_trees((2, ((0, 1, 9),) * 21), tuple((number,) for number in range(21)))

    def test_some_grounds(self):
        self.assert_trees(samples.FORK, ((0, 1, 2), (0, 2, 3), (1, 2, 3)))
        self.assert_trees(samples.ROW, ((0, 1, 2, 3, 4, 5),))
        self.assert_trees(SQUARE, ((0, 1, 2), (0, 1, 3), (0, 2, 3), (1, 2, 3), (1, 2, 4), (1, 3, 4), (2, 3, 4)))

    def test_not_joined(self):
        self.assert_trees(samples.APART, ())
        for many in range(2, 8):
            self.assert_trees((many, ()), ())
            self.assert_trees((many + 1, samples.whole_ground(many)[1][:21]), ())
        self.assert_trees((4, ((0, 1, 1), (0, 1, 2), (2, 3, 1), (2, 3, 2))), ())
        self.assert_trees((4, ((1, 2, 1), (2, 3, 1), (1, 3, 1))), ())
        self.assert_trees((7, ((0, 6, 1),) * 21), ())

    def test_rings(self):
        for many in range(3, 8):
            numbers = range(many)
            leaving_one_out = [tuple(number for number in numbers if number != out) for out in reversed(numbers)]
            self.assert_trees(samples.ring(many), tuple(leaving_one_out))

    def test_whole_grounds(self):
        self.assert_trees(samples.whole_ground(3), ((0, 1), (0, 2), (1, 2)))
        for many, known in ((1, 1), (2, 1), (3, 3), (4, 16), (5, 125), (6, 1296), (7, 16807)):
            ground = samples.whole_ground(many)
            self.assert_count(ground, known)
            self.assertEqual(len(trees(ground)), known)

    def test_lengths_do_not_matter(self):
        for length in (0, 1, 1000):
            ground = (4, tuple((one, other, length) for one, other, _ in SQUARE[1]))
            self.assertEqual(trees(ground), trees(SQUARE))

    def test_all_of_them_and_no_other(self):
        grounds = samples.GROUNDS + [samples.whole_ground(many) for many in range(1, 7)]
        for size in (0, 1, 2, 6, 9, 12):
            grounds += samples.mixed_grounds(size)
        for ground in grounds:
            self.assert_trees(ground, samples.expect_trees(ground))

    def test_21_lines(self):
        for ground in (samples.whole_ground(7), samples.mixed_ground(7, 21, 5)):
            self.assert_trees(ground, samples.expect_trees(ground))

    def test_form(self):
        grounds = samples.GROUNDS + samples.mixed_grounds(12) + [samples.ring(7), samples.whole_ground(7)]
        for ground in grounds:
            found = trees(ground)
            self.assertTrue(all(is_tree(tree, ground) for tree in found))
            self.assertEqual(list(found), sorted(set(found)))

    def test_counts_found_another_way(self):
        for size in (0, 1, 5, 9, 12, 20, 21):
            for ground in samples.mixed_grounds(size):
                self.assert_count(ground, samples.expect_count(ground))

    def test_two_sides(self):
        lines = tuple((one, other, 1) for one in range(3) for other in range(3, 7))
        self.assert_count((7, lines), 3 ** 3 * 4 ** 2)

    def test_somewhat_beyond_the_bounds(self):
        self.assert_trees((0, ()), ())
        self.assert_trees((8, tuple((0, spot, 2000) for spot in range(1, 8))), (tuple(range(7)),))
        self.assert_trees((2, ((0, 1, 1),) * 23), tuple((number,) for number in range(23)))
        self.assertEqual(len(trees(samples.ring(9))), 9)


if __name__ == "__main__":
    unittest.main()
