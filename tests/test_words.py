import unittest

from tests import samples
from twighall.things import is_plain_tree
from twighall.words import tree_of, word_of


class WordOf(unittest.TestCase):
    def assert_word(self, tree, many, expected):
        answer = word_of(tree, many)
        self.assertEqual(answer, expected)
        self.assertTrue(samples.is_made_of_tuples(answer))

    def test_one_spot_and_two(self):
        self.assert_word((), 1, ())
        self.assert_word(((0, 1),), 2, ())

    def test_three_spots(self):
        self.assert_word(((0, 1), (0, 2)), 3, (0,))
        self.assert_word(((0, 1), (1, 2)), 3, (1,))
        self.assert_word(((0, 2), (1, 2)), 3, (2,))

    def test_some_trees(self):
        self.assert_word(((0, 2), (1, 2), (1, 3)), 4, (2, 1))
        self.assert_word(((0, 1), (1, 2), (2, 3)), 4, (1, 2))
        self.assert_word(((0, 3), (1, 3), (2, 3), (3, 4), (4, 5)), 6, (3, 3, 3, 4))
        self.assert_word(((0, 6), (1, 5), (1, 6), (2, 3), (2, 5), (3, 4)), 7, (6, 3, 2, 5, 1))

    def test_stars(self):
        for many in range(3, 8):
            for middle in range(many):
                self.assert_word(samples.star(many, middle), many, (middle,) * (many - 2))

    def test_rows(self):
        for many in range(2, 8):
            self.assert_word(samples.row(range(many)), many, tuple(range(1, many - 1)))

    def test_every_plain_tree(self):
        for many in range(1, 8):
            for tree in samples.plain_trees(many):
                self.assert_word(tree, many, samples.expect_word(tree, many))

    def test_somewhat_beyond_the_bounds(self):
        self.assert_word(samples.star(9, 8), 9, (8,) * 7)
        self.assert_word(samples.row(range(9)), 9, (1, 2, 3, 4, 5, 6, 7))


class TreeOf(unittest.TestCase):
    def assert_tree(self, word, many, expected):
        answer = tree_of(word, many)
        self.assertEqual(answer, expected)
        self.assertTrue(samples.is_made_of_tuples(answer))

    def test_one_spot_and_two(self):
        self.assert_tree((), 1, ())
        self.assert_tree((), 2, ((0, 1),))

    def test_three_spots(self):
        self.assert_tree((0,), 3, ((0, 1), (0, 2)))
        self.assert_tree((1,), 3, ((0, 1), (1, 2)))
        self.assert_tree((2,), 3, ((0, 2), (1, 2)))

    def test_some_words(self):
        self.assert_tree((2, 1), 4, ((0, 2), (1, 2), (1, 3)))
        self.assert_tree((3, 3, 3, 4), 6, ((0, 3), (1, 3), (2, 3), (3, 4), (4, 5)))
        self.assert_tree((6, 3, 2, 5, 1), 7, ((0, 6), (1, 5), (1, 6), (2, 3), (2, 5), (3, 4)))

    def test_one_spot_all_the_time(self):
        for many in range(3, 8):
            for spot in range(many):
                self.assert_tree((spot,) * (many - 2), many, samples.star(many, spot))

    def test_every_word(self):
        for many in range(1, 8):
            for word in samples.words(many):
                tree = tree_of(word, many)
                self.assertTrue(samples.is_made_of_tuples(tree))
                self.assertTrue(is_plain_tree(tree, many))
                self.assertEqual(samples.expect_word(tree, many), word)

    def test_somewhat_beyond_the_bounds(self):
        self.assert_tree((8,) * 7, 9, samples.star(9, 8))
        self.assert_tree((1, 2, 3, 4, 5, 6, 7), 9, samples.row(range(9)))


class ThereAndBack(unittest.TestCase):
    def test_the_word_of_the_tree_of_a_word(self):
        for many in range(1, 8):
            for word in samples.words(many):
                self.assertEqual(word_of(tree_of(word, many), many), word)

    def test_the_tree_of_the_word_of_a_tree(self):
        for many in range(1, 8):
            for tree in samples.plain_trees(many):
                self.assertEqual(tree_of(word_of(tree, many), many), tree)


if __name__ == "__main__":
    unittest.main()
