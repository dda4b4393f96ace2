import unittest
from itertools import product

from tests import samples
from twighall.counting import trees
from twighall.things import is_tree
from twighall.ways import steps, swaps, way

# The lines 0 and 4 join the same spots, and so do 1, 5 and 6.
SQUARE = (4, ((0, 1, 1), (1, 2, 1), (2, 3, 1), (0, 3, 1), (0, 1, 8), (1, 2, 0), (1, 2, 1)))
BENT = (7, ((3, 6, 1), (0, 4, 1), (2, 6, 1), (1, 4, 1), (2, 5, 1), (4, 5, 1), (0, 6, 1)))


def small_grounds():
    grounds = samples.GROUNDS + [SQUARE, BENT] + [samples.ring(many) for many in range(3, 8)]
    grounds += [samples.whole_ground(many) for many in range(1, 6)]
    for size in (1, 4, 7):
        grounds += samples.mixed_grounds(size)
    return grounds


def large_grounds():
    grounds = [samples.whole_ground(6), samples.whole_ground(7), (2, ((0, 1, 1),) * 21)]
    return grounds + [samples.mixed_ground(many, 21, seed) for many in range(3, 8) for seed in (4, 5)]


def some_of(things, most):
    """At most so many of them, from the first to the last."""
    return things if len(things) <= most else things[::len(things) // most + 1] + things[-1:]


def trees_and_grounds():
    for ground in small_grounds():
        for tree in some_of(trees(ground), 40):
            yield tree, ground
    for ground in large_grounds():
        for tree in some_of(trees(ground), 10):
            yield tree, ground


class Way(unittest.TestCase):
    def assert_way(self, ground, tree, one, other, expected):
        answer = way(ground, tree, one, other)
        self.assertEqual(answer, expected)
        self.assertTrue(samples.is_made_of_tuples(answer))

    def test_one_line(self):
        self.assert_way((2, ((0, 1, 0),)), (0,), 0, 1, (0,))
        self.assert_way((2, ((0, 1, 0),)), (0,), 1, 0, (0,))

    def test_the_same_spot(self):
        self.assert_way(samples.LONE, (), 0, 0, ())
        for spot in range(7):
            self.assert_way(samples.ROW, (0, 1, 2, 3, 4, 5), spot, spot, ())
            self.assert_way(BENT, (0, 1, 2, 3, 4, 5), spot, spot, ())

    def test_in_this_order(self):
        self.assert_way(BENT, (0, 1, 2, 3, 4, 5), 3, 1, (0, 2, 4, 5, 3))
        self.assert_way(BENT, (0, 1, 2, 3, 4, 5), 1, 3, (3, 5, 4, 2, 0))
        self.assert_way(BENT, (0, 1, 2, 3, 4, 5), 0, 1, (1, 3))
        self.assert_way(BENT, (0, 1, 2, 3, 4, 5), 5, 6, (4, 2))
        self.assert_way(BENT, (0, 1, 3, 4, 5, 6), 3, 2, (0, 6, 1, 5, 4))

    def test_rows(self):
        tree = (0, 1, 2, 3, 4, 5)
        for one, other in samples.every_pair(7):
            numbers = tuple(range(one, other))
            self.assert_way(samples.ROW, tree, one, other, numbers)
            self.assert_way(samples.ROW, tree, other, one, numbers[::-1])

    def test_lines_that_join_the_same_spots(self):
        for line in range(3):
            self.assert_way(samples.TWINS, (line,), 0, 1, (line,))
            self.assert_way(samples.TWINS, (line,), 1, 0, (line,))
        self.assert_way(SQUARE, (2, 4, 6), 3, 0, (2, 6, 4))
        self.assert_way(SQUARE, (0, 2, 5), 0, 3, (0, 5, 2))
        self.assert_way(SQUARE, (2, 3, 4), 1, 2, (4, 3, 2))

    def test_every_two_spots_of_many_trees(self):
        for tree, ground in trees_and_grounds():
            many, lines = ground
            for one, other in product(range(many), repeat=2):
                answer = way(ground, tree, one, other)
                self.assertTrue(samples.is_made_of_tuples(answer))
                self.assertTrue(set(answer) <= set(tree))
                self.assertEqual(len(set(answer)), len(answer))
                self.assertEqual(samples.walked(lines, answer, one), other)
                self.assertEqual(way(ground, tree, other, one), answer[::-1])

    def test_just_the_lines_without_which_one_can_not_go(self):
        for tree, ground in trees_and_grounds():
            many, lines = ground
            for one, other in samples.every_pair(many):
                needed = []
                for number in tree:
                    pairs = [lines[kept][:2] for kept in tree if kept != number]
                    if other not in samples.reached(many, pairs, one):
                        needed.append(number)
                self.assertEqual(sorted(way(ground, tree, one, other)), needed)

    def test_somewhat_beyond_the_bounds(self):
        ground = (9, ((7, 8, 5000),) + tuple((spot, spot + 1, 1) for spot in range(7)) + ((0, 8, 1),) * 20)
        self.assert_way(ground, tuple(range(8)), 8, 4, (0, 7, 6, 5))
        self.assert_way(ground, tuple(range(7)) + (27,), 0, 7, (27, 0))


class Swaps(unittest.TestCase):
    def assert_swaps(self, ground, tree, line, expected):
        answer = swaps(ground, tree, line)
        self.assertEqual(answer, expected)
        self.assertTrue(samples.is_made_of_tuples(answer))

    def test_ordinary(self):
        self.assert_swaps(samples.FORK, (0, 1, 2), 3, (0, 1))
        self.assert_swaps(samples.FORK, (0, 2, 3), 1, (0, 3))
        self.assert_swaps(samples.FORK, (1, 2, 3), 0, (1, 3))
        self.assert_swaps(BENT, (0, 1, 2, 3, 4, 5), 6, (1, 2, 4, 5))

    def test_rings(self):
        for many in range(3, 8):
            for line in range(many):
                tree = tuple(number for number in range(many) if number != line)
                self.assert_swaps(samples.ring(many), tree, line, tree)

    def test_a_line_that_joins_the_same_spots_as_one_of_the_tree(self):
        for one, other in product(range(3), repeat=2):
            if one != other:
                self.assert_swaps(samples.TWINS, (one,), other, (one,))
        self.assert_swaps(SQUARE, (0, 1, 2), 4, (0,))
        self.assert_swaps(SQUARE, (0, 1, 2), 5, (1,))
        self.assert_swaps(SQUARE, (2, 4, 6), 0, (4,))
        self.assert_swaps(SQUARE, (2, 4, 6), 1, (6,))
        self.assert_swaps(SQUARE, (2, 3, 4), 6, (2, 3, 4))

    def test_just_those_with_which_it_is_a_tree_again(self):
        for tree, ground in trees_and_grounds():
            for line in range(len(ground[1])):
                if line not in tree:
                    fitting = [out for out in tree if is_tree(samples.exchanged(tree, out, line), ground)]
                    self.assert_swaps(ground, tree, line, tuple(fitting))

    def test_somewhat_beyond_the_bounds(self):
        ring = samples.ring(9)
        self.assert_swaps(ring, (0, 1, 2, 3, 4, 5, 6, 7), 8, (0, 1, 2, 3, 4, 5, 6, 7))
        self.assert_swaps((2, ((0, 1, 2000),) * 25), (3,), 24, (3,))


class Steps(unittest.TestCase):
    def assert_steps(self, ground, first, last, is_a_tree=is_tree):
        answer = steps(ground, first, last)
        self.assertTrue(samples.is_made_of_tuples(answer))
        self.assertEqual(len(answer), len(set(first) - set(last)))
        tree = first
        for out, into in answer:
            self.assertIn(out, tree)
            self.assertNotIn(into, tree)
            tree = samples.exchanged(tree, out, into)
            self.assertTrue(is_a_tree(tree, ground))
        self.assertEqual(tree, last)

    def test_from_a_tree_to_itself(self):
        self.assertEqual(steps(samples.LONE, (), ()), ())
        for tree, ground in trees_and_grounds():
            self.assertEqual(steps(ground, tree, tree), ())

    def test_one_step(self):
        self.assertEqual(steps(samples.FORK, (0, 1, 2), (0, 2, 3)), ((1, 3),))
        self.assertEqual(steps(samples.FORK, (1, 2, 3), (0, 1, 2)), ((3, 0),))
        self.assertEqual(steps(samples.TWINS, (2,), (0,)), ((2, 0),))
        self.assertEqual(steps(SQUARE, (2, 4, 6), (1, 2, 4)), ((6, 1),))

    def test_lines_that_join_the_same_spots(self):
        self.assertEqual(sorted(steps(SQUARE, (0, 1, 2), (2, 4, 5))), [(0, 4), (1, 5)])
        self.assertEqual(sorted(steps(SQUARE, (2, 4, 6), (0, 1, 2))), [(4, 0), (6, 1)])

    def test_every_two_trees_of_small_grounds(self):
        for ground in small_grounds():
            for first, last in product(trees(ground), repeat=2):
                self.assert_steps(ground, first, last)

    def test_some_trees_of_large_grounds(self):
        for ground in large_grounds():
            for first, last in product(some_of(trees(ground), 15), repeat=2):
                self.assert_steps(ground, first, last)

    def test_no_line_in_common(self):
        ground = samples.whole_ground(7)
        first = next(tree for tree in trees(ground) if 0 not in tree)
        last = next(tree for tree in reversed(trees(ground)) if not set(tree) & set(first))
        self.assertEqual(len(steps(ground, first, last)), 6)
        self.assert_steps(ground, first, last)
        self.assert_steps(ground, last, first)

    def test_somewhat_beyond_the_bounds(self):
        ground = samples.whole_ground(9)
        first = tuple(range(8))
        last = tuple(number for number, line in enumerate(ground[1]) if line[1] == line[0] + 1)
        self.assert_steps(ground, first, last, samples.expect_tree)
        self.assert_steps(ground, last, first, samples.expect_tree)


if __name__ == "__main__":
    unittest.main()
