import unittest
from itertools import permutations, product

from tests import samples
from twighall.middles import apart, longest, middles

# A row 3 - 0 - 5 - 1 - 6, with 4 beside 0 and 2 beside 5.
FORKED = ((0, 3), (0, 4), (0, 5), (1, 5), (1, 6), (2, 5))


def many_plain_trees():
    for many in range(1, 7):
        for tree in samples.plain_trees(many):
            yield tree, many
    for tree in samples.plain_trees(7)[::17]:
        yield tree, 7


class Middles(unittest.TestCase):
    def assert_apart(self, tree, many, one, other, expected):
        answer = apart(tree, many, one, other)
        self.assertEqual(answer, expected)
        self.assertIs(type(answer), int)

    def assert_middles(self, tree, many, expected):
        answer = middles(tree, many)
        self.assertEqual(answer, expected)
        self.assertTrue(samples.is_made_of_tuples(answer))

    def assert_longest(self, tree, many, expected):
        answer = longest(tree, many)
        self.assertEqual(answer, expected)
        self.assertIs(type(answer), int)


class Apart(Middles):
    def test_one_spot_and_two(self):
        self.assert_apart((), 1, 0, 0, 0)
        self.assert_apart(((0, 1),), 2, 0, 1, 1)
        self.assert_apart(((0, 1),), 2, 1, 0, 1)

    def test_from_a_spot_to_itself(self):
        for spot in range(7):
            self.assert_apart(FORKED, 7, spot, spot, 0)

    def test_ordinary(self):
        for one, other, expected in ((3, 6, 4), (3, 4, 2), (2, 4, 3), (0, 1, 2), (5, 6, 2), (2, 5, 1), (4, 6, 4)):
            self.assert_apart(FORKED, 7, one, other, expected)
            self.assert_apart(FORKED, 7, other, one, expected)

    def test_rows(self):
        for one, other in product(range(7), repeat=2):
            self.assert_apart(samples.row(range(7)), 7, one, other, abs(one - other))

    def test_stars(self):
        for spot, middle in product(range(7), repeat=2):
            self.assert_apart(samples.star(7, middle), 7, spot, middle, int(spot != middle))
            self.assert_apart(samples.star(7, middle), 7, middle, spot, int(spot != middle))
        self.assert_apart(samples.star(7, 3), 7, 0, 6, 2)

    def test_every_two_spots_of_many_plain_trees(self):
        for tree, many in many_plain_trees():
            for (one, other), expected in samples.expect_aparts(tree, many).items():
                self.assert_apart(tree, many, one, other, expected)

    def test_somewhat_beyond_the_bounds(self):
        self.assert_apart(samples.row(range(9)), 9, 8, 0, 8)


class MiddlesThemselves(Middles):
    def test_one_spot_and_two(self):
        self.assert_middles((), 1, (0,))
        self.assert_middles(((0, 1),), 2, (0, 1))

    def test_rows_of_an_even_number_of_pairs(self):
        for many in (1, 3, 5, 7):
            self.assert_middles(samples.row(range(many)), many, (many // 2,))

    def test_rows_of_an_odd_number_of_pairs(self):
        for many in (2, 4, 6):
            self.assert_middles(samples.row(range(many)), many, (many // 2 - 1, many // 2))

    def test_rows_through_the_spots_in_any_order(self):
        for many in range(2, 6):
            for spots in permutations(range(many)):
                ends = {spots[(many - 1) // 2], spots[many // 2]}
                self.assert_middles(samples.row(spots), many, tuple(sorted(ends)))

    def test_stars(self):
        for many in range(3, 8):
            for middle in range(many):
                self.assert_middles(samples.star(many, middle), many, (middle,))

    def test_some_trees(self):
        self.assert_middles(FORKED, 7, (5,))
        self.assert_middles(((0, 1), (0, 2), (0, 3), (3, 4), (3, 5)), 6, (0, 3))
        self.assert_middles(((0, 6), (1, 6), (2, 6), (3, 6), (4, 5), (5, 6)), 7, (5, 6))

    def test_many_plain_trees(self):
        for tree, many in many_plain_trees():
            self.assert_middles(tree, many, samples.expect_middles(tree, many))

    def test_by_the_spot_furthest_off(self):
        for tree, many in many_plain_trees():
            aparts = samples.expect_aparts(tree, many)
            reaches = [max(aparts[spot, other] for other in range(many)) for spot in range(many)]
            nearest = [spot for spot in range(many) if reaches[spot] == min(reaches)]
            self.assert_middles(tree, many, tuple(nearest))

    def test_somewhat_beyond_the_bounds(self):
        self.assert_middles(samples.row(range(8)), 8, (3, 4))
        self.assert_middles(samples.row(range(9)), 9, (4,))


class Longest(Middles):
    def test_one_spot_and_two(self):
        self.assert_longest((), 1, 0)
        self.assert_longest(((0, 1),), 2, 1)

    def test_rows(self):
        for many in range(1, 8):
            self.assert_longest(samples.row(range(many)), many, many - 1)

    def test_stars(self):
        for many in range(3, 8):
            for middle in range(many):
                self.assert_longest(samples.star(many, middle), many, 2)

    def test_some_trees(self):
        self.assert_longest(FORKED, 7, 4)
        self.assert_longest(((0, 1), (0, 2), (0, 3), (3, 4), (3, 5)), 6, 3)

    def test_a_longest_way_beside_the_spot_0(self):
        self.assert_longest(((0, 3), (1, 3), (1, 5), (2, 3), (2, 4), (4, 6)), 7, 5)

    def test_many_plain_trees(self):
        for tree, many in many_plain_trees():
            self.assert_longest(tree, many, max(samples.expect_aparts(tree, many).values()))

    def test_somewhat_beyond_the_bounds(self):
        self.assert_longest(samples.row(range(9)), 9, 8)


if __name__ == "__main__":
    unittest.main()
