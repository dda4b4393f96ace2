import unittest
from itertools import combinations, product

from tests import samples
from twighall.things import is_tree

SQUARE = (4, ((0, 1, 1), (1, 2, 1), (2, 3, 1), (0, 3, 1), (0, 1, 8)))


class Tree(unittest.TestCase):
    def trees(self, ground, *things):
        for thing in things:
            self.assertIs(is_tree(thing, ground), True, thing)

    def no_trees(self, ground, *things):
        for thing in things:
            self.assertIs(is_tree(thing, ground), False, thing)

    def test_ordinary(self):
        self.trees(SQUARE, (0, 1, 2), (0, 1, 3), (1, 2, 3), (2, 3, 4), (1, 2, 4))
        self.trees(samples.TWINS, (0,), (1,), (2,))
        self.trees(samples.ROW, (0, 1, 2, 3, 4, 5))
        self.trees(samples.FORK, (0, 1, 2), (0, 2, 3), (1, 2, 3))

    def test_not_rising(self):
        self.no_trees(SQUARE, (1, 0, 2), (0, 2, 1), (2, 1, 0))

    def test_one_twice(self):
        self.no_trees(SQUARE, (0, 1, 1), (0, 0, 1), (0, 1, 2, 2), (0, 0, 1, 2))

    def test_a_number_that_no_line_has(self):
        self.no_trees(SQUARE, (1, 2, 5), (0, 1, 6), (-1, 1, 2), (-4, -3, -2), (0, 1, 10 ** 5000))
        self.no_trees(samples.TWINS, (3,), (-1,))
        self.no_trees((2, ()), (0,), (-1,))

    def test_too_few_or_too_many(self):
        self.no_trees(SQUARE, (), (0,), (0, 1), (0, 1, 2, 3), (0, 1, 2, 3, 4))
        self.no_trees(samples.TWINS, (), (0, 1), (0, 1, 2))

    def test_not_all_spots_joined(self):
        self.no_trees(SQUARE, (0, 1, 4), (0, 3, 4), (0, 2, 4))
        self.no_trees(samples.FORK, (0, 1, 3))
        self.no_trees(samples.APART, *combinations(range(3), 3))
        self.no_trees((3, ()), (), (0, 1))
        self.no_trees((4, ((1, 2, 1), (2, 3, 1), (1, 3, 1))), (0, 1, 2))

    def test_one_spot(self):
        self.trees(samples.LONE, ())
        self.no_trees(samples.LONE, (0,), (-1,), [], None, 0, "", ((),), False)

    def test_every_choice_of_numbers(self):
        for ground in (SQUARE, samples.FORK, samples.TWINS):
            for size in range(5):
                for thing in product(range(-1, len(ground[1]) + 1), repeat=size):
                    self.assertIs(is_tree(thing, ground), samples.expect_tree(thing, ground))

    def test_as_many_as_are_known(self):
        for many, known in ((2, 1), (3, 3), (4, 16), (5, 125), (6, 1296)):
            ground = samples.whole_ground(many)
            some = combinations(range(len(ground[1])), many - 1)
            self.assertEqual(sum(is_tree(thing, ground) for thing in some), known)

    def test_any_thing_in_any_place(self):
        for ground, tree in ((SQUARE, (1, 2, 4)), (samples.TWINS, (1,)), (samples.LONE, ()), (samples.ROW, (0, 1, 2))):
            for thing in samples.altered(tree):
                self.assertIs(is_tree(thing, ground), samples.expect_tree(thing, ground))

    def test_truths_and_lists(self):
        self.no_trees(SQUARE, (False, 1, 2), (0, True, 2), [0, 1, 2], ([0], 1, 2), "012")

    def test_no_ground_has_no_tree(self):
        for ground in samples.altered(samples.TWINS):
            expected = samples.expect_ground(ground) and samples.expect_tree((0,), ground)
            self.assertIs(is_tree((0,), ground), expected)


if __name__ == "__main__":
    unittest.main()
