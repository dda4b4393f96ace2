import unittest
from itertools import combinations

from tests import samples
from twighall.things import joined


def every_some(ground):
    for size in range(len(ground[1]) + 1):
        yield from combinations(range(len(ground[1])), size)


class Joined(unittest.TestCase):
    def test_no_lines(self):
        self.assertEqual(joined(samples.LONE, ()), ((0,),))
        self.assertEqual(joined(samples.FORK, ()), ((0,), (1,), (2,), (3,)))
        self.assertEqual(joined((7, ()), ()), tuple((spot,) for spot in range(7)))

    def test_some_lines(self):
        self.assertEqual(joined(samples.FORK, (1,)), ((0, 2), (1,), (3,)))
        self.assertEqual(joined(samples.FORK, (2, 3)), ((0, 3), (1, 2)))
        self.assertEqual(joined(samples.APART, (1,)), ((0,), (1, 4), (2,), (3,)))

    def test_all_lines(self):
        self.assertEqual(joined(samples.FORK, (0, 1, 2, 3)), ((0, 1, 2, 3),))
        self.assertEqual(joined(samples.APART, (0, 1, 2)), ((0, 3), (1, 4), (2,)))
        self.assertEqual(joined(samples.TWINS, (0, 1, 2)), ((0, 1),))

    def test_lines_are_used_either_way(self):
        ground = (4, ((1, 3, 1), (2, 3, 1), (0, 2, 1)))
        self.assertEqual(joined(ground, (0, 1)), ((0,), (1, 2, 3)))
        self.assertEqual(joined(ground, (0, 1, 2)), ((0, 1, 2, 3),))

    def test_ways_over_several_lines(self):
        self.assertEqual(joined(samples.ROW, tuple(range(6))), (tuple(range(7)),))
        self.assertEqual(joined(samples.ROW, (0, 1, 2, 4, 5)), ((0, 1, 2, 3), (4, 5, 6)))
        ground = (7, ((5, 6, 1), (4, 5, 1), (3, 4, 1), (2, 3, 1), (1, 2, 1), (0, 1, 1)))
        self.assertEqual(joined(ground, tuple(range(6))), (tuple(range(7)),))

    def test_groups_that_grow_together(self):
        ground = (6, ((2, 5, 0), (0, 4, 0), (1, 3, 0), (3, 5, 0), (1, 4, 0)))
        self.assertEqual(joined(ground, (0, 1, 2)), ((0, 4), (1, 3), (2, 5)))
        self.assertEqual(joined(ground, (0, 1, 2, 3)), ((0, 4), (1, 2, 3, 5)))
        self.assertEqual(joined(ground, (0, 1, 2, 3, 4)), ((0, 1, 2, 3, 4, 5),))

    def test_every_some_lines(self):
        for ground in samples.GROUNDS + [samples.whole_ground(4), samples.whole_ground(5)]:
            many, lines = ground
            for some in every_some(ground):
                pairs = [lines[number][:2] for number in some]
                self.assertEqual(joined(ground, some), samples.expect_groups(many, pairs))

    def test_form_of_the_groups(self):
        ground = samples.whole_ground(5)
        for some in every_some(ground):
            groups = joined(ground, some)
            self.assertIs(type(groups), tuple)
            self.assertTrue(all(type(group) is tuple for group in groups))
            self.assertEqual(sorted(spot for group in groups for spot in group), list(range(5)))
            self.assertTrue(all(list(group) == sorted(group) for group in groups))
            firsts = [group[0] for group in groups]
            self.assertEqual(firsts, sorted(firsts))

    def test_somewhat_beyond_the_bounds(self):
        ground = (9, tuple((spot, spot + 1, 2000) for spot in range(8)))
        self.assertEqual(joined(ground, (0, 1, 2, 3, 5, 6, 7)), ((0, 1, 2, 3, 4), (5, 6, 7, 8)))
        self.assertEqual(joined((2, ((0, 1, 1),) * 23), (22,)), ((0, 1),))


if __name__ == "__main__":
    unittest.main()
