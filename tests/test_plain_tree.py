import unittest
from itertools import combinations, product

from tests import samples
from twighall.things import is_plain_tree

STAR = ((0, 1), (0, 2), (0, 3))
ROW = ((0, 2), (1, 2), (1, 3))


class PlainTree(unittest.TestCase):
    def plain_trees(self, many, *things):
        for thing in things:
            self.assertIs(is_plain_tree(thing, many), True, thing)

    def no_plain_trees(self, many, *things):
        for thing in things:
            self.assertIs(is_plain_tree(thing, many), False, thing)

    def test_ordinary(self):
        self.plain_trees(2, ((0, 1),))
        self.plain_trees(3, ((0, 1), (0, 2)), ((0, 1), (1, 2)), ((0, 2), (1, 2)))
        self.plain_trees(4, STAR, ROW)
        self.plain_trees(7, tuple((0, spot) for spot in range(1, 7)), tuple((spot, spot + 1) for spot in range(6)))

    def test_not_rising(self):
        self.no_plain_trees(4, ((0, 2), (0, 1), (0, 3)), ((0, 2), (1, 3), (1, 2)), ((1, 2), (0, 2), (1, 3)))

    def test_a_pair_twice(self):
        self.no_plain_trees(4, ((0, 1), (0, 2), (0, 2)), ((0, 1), (0, 2), (0, 3), (0, 3)))
        self.no_plain_trees(3, ((0, 1), (0, 1)))

    def test_the_first_not_less(self):
        self.no_plain_trees(3, ((0, 1), (2, 1)), ((0, 2), (2, 1)), ((1, 0), (2, 0)), ((0, 1), (1, 1)))
        self.no_plain_trees(2, ((1, 0),), ((0, 0),), ((1, 1),))

    def test_spots_that_there_are_not(self):
        self.no_plain_trees(3, ((0, 1), (0, 3)), ((0, 1), (1, 3)), ((-1, 0), (0, 1)), ((-2, -1), (0, 1)))
        self.no_plain_trees(2, ((0, 2),), ((-1, 0),), ((0, 10 ** 5000),), ((-(10 ** 5000), 1),))

    def test_too_few_or_too_many(self):
        self.no_plain_trees(4, (), STAR[:1], STAR[:2], STAR + ((1, 2),), STAR + ((1, 2), (1, 3)))
        self.no_plain_trees(3, STAR)
        self.no_plain_trees(5, STAR)

    def test_not_all_spots_joined(self):
        self.no_plain_trees(4, ((0, 1), (0, 2), (1, 2)), ((1, 2), (1, 3), (2, 3)))
        self.no_plain_trees(6, ((0, 1), (2, 3), (2, 4), (2, 5), (3, 4)), ((0, 1), (0, 2), (1, 2), (3, 4), (4, 5)))

    def test_one_spot(self):
        self.plain_trees(1, ())
        self.no_plain_trees(1, ((0, 0),), ((0, 1),), [], None, 0, "", ((),), False)

    def test_sizes_of_the_pairs(self):
        self.no_plain_trees(2, (0, 1), ((0,),), ((0, 1, 2),), ((),), (0,), ((0, 1, 1),))

    def test_truths_and_lists(self):
        self.no_plain_trees(2, ((False, 1),), ((0, True),), [(0, 1)], ([0, 1],), ("01",), "01")

    def test_how_many_spots(self):
        for many in range(1, 8):
            self.plain_trees(many, tuple((0, spot) for spot in range(1, many)))
        self.no_plain_trees(8, tuple((0, spot) for spot in range(1, 8)))
        for many in (0, -1, True, None, "1", (), [], 10 ** 5000):
            self.no_plain_trees(many, ())

    def test_every_choice_of_pairs(self):
        pairs = list(product(range(-1, 4), repeat=2))
        for size in range(4):
            for thing in product(pairs, repeat=size):
                self.assertIs(is_plain_tree(thing, 3), samples.expect_plain_tree(thing, 3))

    def test_as_many_as_are_known(self):
        for many, known in ((2, 1), (3, 3), (4, 16), (5, 125), (6, 1296), (7, 16807)):
            choices = combinations(samples.every_pair(many), many - 1)
            self.assertEqual(sum(is_plain_tree(thing, many) for thing in choices), known)

    def test_any_thing_in_any_place(self):
        for many, tree in ((4, STAR), (4, ROW), (2, ((0, 1),)), (1, ()), (5, STAR)):
            for thing in samples.altered(tree):
                self.assertIs(is_plain_tree(thing, many), samples.expect_plain_tree(thing, many))


if __name__ == "__main__":
    unittest.main()
