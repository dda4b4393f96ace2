"""What holds between the functions, for many grounds and each of their lines."""

import unittest
from itertools import product

from tests import samples
from twighall.changing import bridges, together, whole, without
from twighall.counting import count_trees, trees
from twighall.lightest import is_only, length_of, lightest
from twighall.middles import apart, longest, middles
from twighall.things import is_plain_tree, is_tree
from twighall.ways import steps, swaps, way
from twighall.words import tree_of, word_of


def many_grounds():
    grounds = samples.GROUNDS + [samples.ring(many) for many in range(3, 8)] + [whole(many) for many in range(1, 7)]
    for size in (1, 3, 6, 9, 12):
        grounds += samples.mixed_grounds(size)
    return grounds


def grounds_of_21_lines():
    grounds = [whole(7), (2, ((0, 1, 1),) * 21), (7, ((0, 6, 1),) * 21)]
    return grounds + [samples.mixed_ground(many, 21, 8) for many in range(3, 8)]


def with_few_lengths(ground, most):
    return (ground[0], tuple((one, other, length % (most + 1)) for one, other, length in ground[1]))


def lines_left_out(ground, tree):
    return [line for line in range(len(ground[1])) if line not in tree]


def between(ground, tree, line):
    """The lines of the tree on the way between the line's ends."""
    return way(ground, tree, ground[1][line][0], ground[1][line][1])


class CountedWithAndWithout(unittest.TestCase):
    def assert_law(self, ground):
        count = count_trees(ground)
        drawn = [count_trees(together(ground, line)) for line in range(len(ground[1]))]
        for line, having in enumerate(drawn):
            self.assertEqual(count, count_trees(without(ground, line)) + having)
        told = trees(ground)
        for line, having in enumerate(drawn):
            self.assertEqual(having, len([tree for tree in told if line in tree]))
        self.assertEqual(sum(drawn), count * (ground[0] - 1))

    def test_many_grounds(self):
        for ground in many_grounds():
            self.assert_law(ground)

    def test_21_lines(self):
        for ground in grounds_of_21_lines():
            self.assert_law(ground)


class ToldWithAndWithout(unittest.TestCase):
    def trees_without(self, ground, line):
        """The trees of the ground without the line, by the numbers that the lines had."""
        return [tuple(number + (number >= line) for number in tree) for tree in trees(without(ground, line))]

    def trees_together(self, ground, line):
        """The trees of the ground with the line's ends drawn together, by the numbers that the lines had, and it."""
        lines = ground[1]
        staying = [number for number, other in enumerate(lines) if other[:2] != lines[line][:2]]
        drawn = trees(together(ground, line))
        return [tuple(sorted([staying[number] for number in tree] + [line])) for tree in drawn]

    def test_the_very_trees(self):
        for ground in many_grounds():
            for line in range(len(ground[1])):
                found = self.trees_without(ground, line) + self.trees_together(ground, line)
                self.assertEqual(tuple(sorted(found)), trees(ground))

    def test_bridges_are_in_every_tree(self):
        for ground in many_grounds():
            told = trees(ground)
            if told:
                in_all = [line for line in range(len(ground[1])) if all(line in tree for tree in told)]
                self.assertEqual(bridges(ground), tuple(in_all))


class Exchanged(unittest.TestCase):
    def test_a_line_lets_just_those_go_that_are_on_the_way_between_its_ends(self):
        for ground in many_grounds() + grounds_of_21_lines():
            for tree in trees(ground)[::97] + trees(ground)[-3:]:
                for line in lines_left_out(ground, tree):
                    on_the_way = tuple(sorted(between(ground, tree, line)))
                    self.assertEqual(swaps(ground, tree, line), on_the_way)
                    for out in tree:
                        again = is_tree(samples.exchanged(tree, out, line), ground)
                        self.assertIs(again, out in on_the_way)

    def test_the_one_becomes_the_other(self):
        for ground in many_grounds() + grounds_of_21_lines():
            told = trees(ground)
            some = told[::len(told) // 6 + 1]
            for first, last in product(some, repeat=2):
                tree = first
                taken = steps(ground, first, last)
                for out, into in taken:
                    self.assertIn(out, tree)
                    self.assertNotIn(into, tree)
                    tree = samples.exchanged(tree, out, into)
                    self.assertIs(is_tree(tree, ground), True)
                self.assertEqual(tree, last)
                self.assertEqual(len(taken), len([line for line in first if line not in last]))


class OfTheLightest(unittest.TestCase):
    def assert_law(self, ground):
        told = trees(ground)
        least = min(length_of(ground, tree) for tree in told)
        all_lightest = [tree for tree in told if length_of(ground, tree) == least]
        self.assertIn(lightest(ground), all_lightest)
        self.assertIs(is_only(ground), len(all_lightest) == 1)
        for tree in all_lightest[:20]:
            all_longer = True
            for line in lines_left_out(ground, tree):
                lengths = [ground[1][number][2] for number in between(ground, tree, line)]
                self.assertGreaterEqual(ground[1][line][2], max(lengths))
                all_longer = all_longer and ground[1][line][2] > max(lengths)
            self.assertIs(is_only(ground), all_longer)

    def test_many_grounds(self):
        for ground in many_grounds() + grounds_of_21_lines():
            if count_trees(ground):
                self.assert_law(ground)

    def test_few_lengths(self):
        for ground in many_grounds() + grounds_of_21_lines():
            if count_trees(ground):
                self.assert_law(with_few_lengths(ground, 1))
                self.assert_law(with_few_lengths(ground, 5))


class WordsAndTrees(unittest.TestCase):
    def test_they_tell_one_another(self):
        for many in range(1, 8):
            lines = whole(many)[1]
            plain = [tuple(lines[number][:2] for number in tree) for tree in trees(whole(many))]
            self.assertTrue(all(is_plain_tree(tree, many) for tree in plain))
            told = [word_of(tree, many) for tree in plain]
            self.assertEqual([tree_of(word, many) for word in told], plain)
            self.assertEqual(sorted(told), list(samples.words(many)))

    def test_as_many_trees_as_words(self):
        for many in range(1, 8):
            words = list(samples.words(many))
            told = {tree_of(word, many) for word in words}
            self.assertEqual(len(told), len(words))
            self.assertEqual(count_trees(whole(many)), len(words))
            self.assertEqual(count_trees(whole(many)), many ** max(many - 2, 0))


class OfTheMiddles(unittest.TestCase):
    def assert_law(self, tree, many):
        found = middles(tree, many)
        far = longest(tree, many)
        # Two middles stand beside one another, and this is just so if the longest way has an odd number of pairs.
        self.assertEqual(len(found), 1 + far % 2)
        self.assertEqual(apart(tree, many, found[0], found[-1]), len(found) - 1)
        longest_ways = [ends for ends in product(range(many), repeat=2) if apart(tree, many, *ends) == far]
        self.assertTrue(longest_ways)
        for one, other in longest_ways:
            for middle in found:
                self.assertEqual(apart(tree, many, one, middle) + apart(tree, many, middle, other), far)

    def test_every_plain_tree_on_few_spots(self):
        for many in range(1, 7):
            for tree in samples.plain_trees(many):
                self.assert_law(tree, many)

    def test_many_plain_trees_on_seven_spots(self):
        for tree in samples.plain_trees(7)[::23]:
            self.assert_law(tree, 7)


if __name__ == "__main__":
    unittest.main()
