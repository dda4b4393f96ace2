"""What holds between the functions, for many grounds and each of their lines."""

import unittest

from tests import samples
from twighall.changing import bridges, together, whole, without
from twighall.counting import count_trees, trees


def many_grounds():
    grounds = samples.GROUNDS + [samples.ring(many) for many in range(3, 8)] + [whole(many) for many in range(1, 7)]
    for size in (1, 3, 6, 9, 12):
        grounds += samples.mixed_grounds(size)
    return grounds


def grounds_of_21_lines():
    grounds = [whole(7), (2, ((0, 1, 1),) * 21), (7, ((0, 6, 1),) * 21)]
    return grounds + [samples.mixed_ground(many, 21, 8) for many in range(3, 8)]


class CountedWithAndWithout(unittest.TestCase):
    def assert_law(self, ground):
        count = count_trees(ground)
        drawn = [count_trees(together(ground, line)) for line in range(len(ground[1]))]
        for line, having in enumerate(drawn):
            self.assertEqual(count, count_trees(without(ground, line)) + having)
        told = trees(ground)
        for line, having in enumerate(drawn):
            self.assertEqual(having, len([tree for tree in told if line in tree]))
        self.assertEqual(sum(drawn), count * (ground[0] - 1))

    def test_many_grounds(self):
        for ground in many_grounds():
            self.assert_law(ground)

    def test_21_lines(self):
        for ground in grounds_of_21_lines():
            self.assert_law(ground)


class ToldWithAndWithout(unittest.TestCase):
    def trees_without(self, ground, line):
        """The trees of the ground without the line, by the numbers that the lines had."""
        return [tuple(number + (number >= line) for number in tree) for tree in trees(without(ground, line))]

    def trees_together(self, ground, line):
        """The trees of the ground with the line's ends drawn together, by the numbers that the lines had, and it."""
        lines = ground[1]
        staying = [number for number, other in enumerate(lines) if other[:2] != lines[line][:2]]
        drawn = trees(together(ground, line))
        return [tuple(sorted([staying[number] for number in tree] + [line])) for tree in drawn]

    def test_the_very_trees(self):
        for ground in many_grounds():
            for line in range(len(ground[1])):
                found = self.trees_without(ground, line) + self.trees_together(ground, line)
                self.assertEqual(tuple(sorted(found)), trees(ground))

    def test_bridges_are_in_every_tree(self):
        for ground in many_grounds():
            told = trees(ground)
            if told:
                in_all = [line for line in range(len(ground[1])) if all(line in tree for tree in told)]
                self.assertEqual(bridges(ground), tuple(in_all))


if __name__ == "__main__":
    unittest.main()
