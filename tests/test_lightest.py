import unittest
from itertools import combinations, product

from tests import samples
from twighall.counting import trees
from twighall.errors import NoGround, NoText, NoTree, TwigError
from twighall.lightest import is_only, length_of, lightest
from twighall.things import is_tree

NOT_JOINED = [
    samples.APART, (2, ()), (3, ()), (7, ()), (3, ((0, 1, 5),)), (3, ((1, 2, 0),)), (4, ((0, 1, 1), (2, 3, 1))),
    (4, ((1, 2, 1), (2, 3, 1), (1, 3, 1))), (4, ((0, 1, 0), (0, 2, 0), (1, 2, 0))), (7, ((0, 6, 1),) * 21),
    (7, samples.whole_ground(6)[1]), (6, tuple((spot, spot + 1, 1) for spot in range(4)) * 5),
]


def with_lengths(ground, lengths):
    lines = zip(ground[1], lengths)
    return (ground[0], tuple((line[0], line[1], length) for line, length in lines))


def lessened(ground, most):
    """The ground with few different lengths, so that many are equal."""
    return with_lengths(ground, [line[2] % (most + 1) for line in ground[1]])


def many_grounds():
    grounds = samples.GROUNDS + [samples.ring(many) for many in range(3, 8)]
    grounds += [samples.whole_ground(many) for many in range(1, 7)]
    for size in (1, 3, 6, 9, 12):
        grounds += samples.mixed_grounds(size)
    return grounds + [lessened(ground, most) for ground in grounds for most in (0, 1, 2, 4)]


def large_grounds():
    grounds = [samples.whole_ground(7), with_lengths(samples.whole_ground(7), [7 * place % 22 for place in range(21)])]
    grounds += [(2, ((0, 1, 1),) * 21), (2, ((0, 1, 1),) * 20 + ((0, 1, 0),))]
    grounds += [samples.mixed_ground(many, 21, 8) for many in range(2, 8)]
    return grounds + [lessened(ground, most) for ground in grounds[-2:] for most in (0, 3)]


def expect_length(ground, some):
    return sum(length for number, (_, _, length) in enumerate(ground[1]) if number in some)


class Length(unittest.TestCase):
    def assert_length(self, ground, some, expected):
        answer = length_of(ground, some)
        self.assertEqual(answer, expected)
        self.assertIs(type(answer), int)

    def test_no_lines(self):
        for ground in many_grounds():
            self.assert_length(ground, (), 0)

    def test_some_lines(self):
        self.assert_length(samples.FORK, (0,), 5)
        self.assert_length(samples.FORK, (1,), 0)
        self.assert_length(samples.FORK, (2,), 1000)
        self.assert_length(samples.FORK, (0, 3), 12)
        self.assert_length(samples.FORK, (0, 1, 2), 1005)
        self.assert_length(samples.TWINS, (0, 1), 6)
        self.assert_length(samples.TWINS, (1, 2), 7)

    def test_all_lines(self):
        self.assert_length(samples.FORK, (0, 1, 2, 3), 1012)
        self.assert_length(samples.TWINS, (0, 1, 2), 10)
        self.assert_length((2, ((0, 1, 1000),) * 21), tuple(range(21)), 21000)
        self.assert_length((2, ((0, 1, 0),) * 21), tuple(range(21)), 0)
        self.assert_length(samples.whole_ground(7), tuple(range(21)), 21)

    def test_every_choice_of_lines(self):
        for ground in samples.GROUNDS + samples.mixed_grounds(6):
            for size in range(len(ground[1]) + 1):
                for some in combinations(range(len(ground[1])), size):
                    self.assert_length(ground, some, expect_length(ground, some))

    def test_somewhat_beyond_the_bounds(self):
        self.assert_length((9, ((0, 8, 2000),) * 23), tuple(range(23)), 46000)


class Lightest(unittest.TestCase):
    def assert_lightest(self, ground):
        answer = lightest(ground)
        self.assertTrue(samples.is_made_of_tuples(answer))
        self.assertTrue(is_tree(answer, ground))
        least = min(expect_length(ground, tree) for tree in trees(ground))
        self.assertEqual(expect_length(ground, answer), least)

    def test_the_only_tree(self):
        self.assertEqual(lightest(samples.LONE), ())
        self.assertEqual(lightest((2, ((0, 1, 1000),))), (0,))
        self.assertEqual(lightest(samples.ROW), (0, 1, 2, 3, 4, 5))

    def test_one_is_shorter(self):
        self.assertEqual(lightest(samples.FORK), (0, 1, 2))
        self.assertEqual(lightest((2, ((0, 1, 9), (0, 1, 4), (0, 1, 5)))), (1,))
        self.assertEqual(lightest((3, ((0, 1, 1000), (0, 2, 999), (1, 2, 998)))), (1, 2))
        self.assertEqual(lightest((3, ((0, 1, 0), (0, 2, 1), (1, 2, 0)))), (0, 2))
        self.assertEqual(lightest((4, ((0, 3, 2), (2, 3, 1), (0, 2, 4), (0, 1, 3), (1, 3, 9)))), (0, 1, 3))

    def test_shortest_lines_that_close_a_ring(self):
        ground = (4, ((0, 1, 1), (0, 2, 1), (1, 2, 1), (2, 3, 1000), (0, 3, 999)))
        self.assertIn(lightest(ground), ((0, 1, 4), (0, 2, 4), (1, 2, 4)))

    def test_every_length_on_few_lines(self):
        triangle = samples.whole_ground(3)
        for lengths in product((0, 1, 2, 1000), repeat=4):
            self.assert_lightest(with_lengths((3, triangle[1] + ((0, 1, 0),)), lengths))
        for lengths in product((0, 1, 3), repeat=6):
            self.assert_lightest(with_lengths(samples.whole_ground(4), lengths))

    def test_many_grounds(self):
        for ground in many_grounds():
            if trees(ground):
                self.assert_lightest(ground)

    def test_21_lines(self):
        for ground in large_grounds():
            self.assert_lightest(ground)

    def test_somewhat_beyond_the_bounds(self):
        self.assertEqual(lightest((8, tuple((0, spot, 2000) for spot in range(1, 8)))), (0, 1, 2, 3, 4, 5, 6))
        self.assertEqual(lightest((2, ((0, 1, 2000),) * 22 + ((0, 1, 1001),))), (22,))
        self.assertEqual(lightest(samples.ring(9)), (0, 1, 2, 3, 4, 5, 6, 7))


class Only(unittest.TestCase):
    def assert_only(self, ground):
        lengths = sorted(expect_length(ground, tree) for tree in trees(ground))
        self.assertIs(is_only(ground), lengths.count(lengths[0]) == 1)

    def test_the_only_tree(self):
        for ground in (samples.LONE, (2, ((0, 1, 0),)), (2, ((0, 1, 1000),)), samples.ROW):
            self.assertIs(is_only(ground), True)

    def test_no_other_is_as_short(self):
        for ground in (samples.FORK, (2, ((0, 1, 9), (0, 1, 4), (0, 1, 5))), (2, ((0, 1, 1), (0, 1, 0))),
                       (3, ((0, 1, 0), (0, 2, 1), (1, 2, 0))), (2, ((0, 1, 1),) * 20 + ((0, 1, 0),)),
                       samples.ring(7), (3, ((0, 1, 1), (1, 2, 1), (0, 2, 2)))):
            self.assertIs(is_only(ground), True)

    def test_another_is_as_short(self):
        for ground in (samples.TWINS, (2, ((0, 1, 0),) * 2), (2, ((0, 1, 1000),) * 21), samples.whole_ground(7),
                       (3, ((0, 1, 0), (0, 2, 1), (1, 2, 1))), (3, ((0, 1, 1), (1, 2, 2), (0, 2, 2))),
                       (2, ((0, 1, 3), (0, 1, 4), (0, 1, 3)))):
            self.assertIs(is_only(ground), False)

    def test_equal_lengths_that_do_not_stand_against_one_another(self):
        self.assertIs(is_only((4, ((0, 1, 5), (1, 2, 5), (2, 3, 5)))), True)
        self.assertIs(is_only((5, ((0, 1, 5), (1, 2, 5), (0, 2, 9), (2, 3, 7), (3, 4, 9), (2, 4, 8)))), True)
        self.assertIs(is_only((5, ((0, 1, 5), (1, 2, 5), (0, 2, 9), (2, 3, 7), (3, 4, 8), (2, 4, 8)))), False)

    def test_every_length_on_few_lines(self):
        triangle = samples.whole_ground(3)
        for lengths in product((0, 1, 2, 1000), repeat=4):
            self.assert_only(with_lengths((3, triangle[1] + ((0, 1, 0),)), lengths))
        for lengths in product((0, 1, 3), repeat=6):
            self.assert_only(with_lengths(samples.whole_ground(4), lengths))

    def test_many_grounds(self):
        for ground in many_grounds():
            if trees(ground):
                self.assert_only(ground)

    def test_21_lines(self):
        for ground in large_grounds():
            self.assert_only(ground)

    def test_somewhat_beyond_the_bounds(self):
        self.assertIs(is_only(samples.ring(9)), True)
        self.assertIs(is_only(samples.whole_ground(9)), False)
        self.assertIs(is_only((2, ((0, 1, 2000),) * 22 + ((0, 1, 1001),))), True)


class NoTreeAtAll(unittest.TestCase):
    def test_not_all_spots_joined(self):
        for asked in (lightest, is_only):
            for ground in NOT_JOINED:
                with self.assertRaises(NoTree) as taken:
                    asked(ground)
                self.assertNotIsInstance(taken.exception, (NoGround, NoText))

    def test_taken_as_twig_error_and_as_value_error(self):
        for asked, taken in product((lightest, is_only), (TwigError, ValueError)):
            for ground in NOT_JOINED:
                with self.assertRaises(taken):
                    asked(ground)

    def test_just_where_there_is_no_tree(self):
        for ground in many_grounds():
            for asked in (lightest, is_only):
                if not trees(ground):
                    self.assertRaises(NoTree, asked, ground)

    def test_some_lines_of_it_have_a_length_all_the_same(self):
        self.assertEqual(length_of(samples.APART, (0, 1)), 3)
        self.assertEqual(length_of((7, ()), ()), 0)

    def test_somewhat_beyond_the_bounds(self):
        for asked in (lightest, is_only):
            self.assertRaises(NoTree, asked, (8, samples.whole_ground(7)[1]))
            self.assertRaises(NoTree, asked, (0, ()))


if __name__ == "__main__":
    unittest.main()
