import unittest

from tests import samples
from twighall.changing import bridges, together, whole, without
from twighall.things import is_ground

HOUSE = (5, ((0, 2, 3), (1, 4, 1000), (2, 4, 0), (0, 1, 7), (2, 4, 9), (3, 4, 4)))


def many_grounds():
    grounds = samples.GROUNDS + [HOUSE] + [samples.whole_ground(many) for many in range(1, 8)]
    grounds += [samples.ring(many) for many in range(3, 8)]
    for size in (1, 2, 5, 12, 21):
        grounds += samples.mixed_grounds(size)
    return grounds


def expect_together(ground, line):
    """By names of spots: the spots that stay, in their order, are numbered anew."""
    many, lines = ground
    one, other, _ = lines[line]
    staying = [spot for spot in range(many) if spot != other]
    renamed = {spot: place for place, spot in enumerate(staying)}
    renamed[other] = renamed[one]
    ends = [(sorted([renamed[start], renamed[end]]), length) for start, end, length in lines]
    return (many - 1, tuple((first, last, length) for (first, last), length in ends if first != last))


class Changing(unittest.TestCase):
    def assert_ground(self, answer, expected):
        self.assertEqual(answer, expected)
        self.assertTrue(samples.is_made_of_tuples(answer))


class Without(Changing):
    def test_ordinary(self):
        self.assert_ground(without(HOUSE, 0), (5, HOUSE[1][1:]))
        self.assert_ground(without(HOUSE, 5), (5, HOUSE[1][:5]))
        self.assert_ground(without(HOUSE, 2), (5, ((0, 2, 3), (1, 4, 1000), (0, 1, 7), (2, 4, 9), (3, 4, 4))))

    def test_one_of_several_alike(self):
        self.assert_ground(without(samples.TWINS, 0), (2, ((0, 1, 3), (0, 1, 4))))
        self.assert_ground(without(samples.TWINS, 1), (2, ((0, 1, 3), (0, 1, 4))))
        self.assert_ground(without(samples.TWINS, 2), (2, ((0, 1, 3), (0, 1, 3))))

    def test_the_only_line(self):
        self.assert_ground(without((2, ((0, 1, 0),)), 0), (2, ()))

    def test_every_line(self):
        for ground in many_grounds():
            for line in range(len(ground[1])):
                lines = list(ground[1])
                lines.pop(line)
                self.assert_ground(without(ground, line), (ground[0], tuple(lines)))
                self.assertIs(is_ground(without(ground, line)), True)

    def test_somewhat_beyond_the_bounds(self):
        self.assert_ground(without((9, ((0, 8, 2000),) * 23), 22), (9, ((0, 8, 2000),) * 22))


class Together(Changing):
    def test_first_line(self):
        self.assert_ground(together(HOUSE, 0), (4, ((1, 3, 1000), (0, 3, 0), (0, 1, 7), (0, 3, 9), (2, 3, 4))))

    def test_middle_line(self):
        self.assert_ground(together(HOUSE, 3), (4, ((0, 1, 3), (0, 3, 1000), (1, 3, 0), (1, 3, 9), (2, 3, 4))))

    def test_last_line(self):
        self.assert_ground(together(HOUSE, 5), (4, ((0, 2, 3), (1, 3, 1000), (2, 3, 0), (0, 1, 7), (2, 3, 9))))

    def test_from_a_spot_to_itself(self):
        self.assert_ground(together(HOUSE, 2), (4, ((0, 2, 3), (1, 2, 1000), (0, 1, 7), (2, 3, 4))))
        self.assert_ground(together(HOUSE, 4), (4, ((0, 2, 3), (1, 2, 1000), (0, 1, 7), (2, 3, 4))))
        for line in range(3):
            self.assert_ground(together(samples.TWINS, line), (1, ()))

    def test_the_only_line(self):
        self.assert_ground(together((2, ((0, 1, 0),)), 0), (1, ()))
        self.assert_ground(together((7, ((2, 4, 0),)), 0), (6, ()))

    def test_the_lesser_spot_stands_first(self):
        ground = (4, ((0, 3, 1), (1, 3, 2), (2, 3, 3)))
        self.assert_ground(together(ground, 0), (3, ((0, 1, 2), (0, 2, 3))))
        self.assert_ground(together(ground, 1), (3, ((0, 1, 1), (1, 2, 3))))
        self.assert_ground(together(ground, 2), (3, ((0, 2, 1), (1, 2, 2))))

    def test_greater_spots_are_numbered_one_less(self):
        self.assert_ground(together(samples.ROW, 0), (6, tuple((spot, spot + 1, spot + 1) for spot in range(5))))
        self.assert_ground(together((7, ((1, 3, 0), (5, 6, 1), (0, 2, 2), (2, 4, 3))), 0),
                           (6, ((4, 5, 1), (0, 2, 2), (2, 3, 3))))

    def test_every_line(self):
        for ground in many_grounds():
            for line in range(len(ground[1])):
                self.assert_ground(together(ground, line), expect_together(ground, line))
                self.assertIs(is_ground(together(ground, line)), True)

    def test_somewhat_beyond_the_bounds(self):
        ground = (9, ((0, 8, 2000),) * 22 + ((1, 8, 3000), (2, 7, 1)))
        self.assert_ground(together(ground, 21), (8, ((0, 1, 3000), (2, 7, 1))))


class Whole(Changing):
    def test_every_size(self):
        self.assert_ground(whole(1), (1, ()))
        self.assert_ground(whole(2), (2, ((0, 1, 1),)))
        self.assert_ground(whole(3), (3, ((0, 1, 1), (0, 2, 1), (1, 2, 1))))
        for many in range(1, 8):
            self.assert_ground(whole(many), samples.whole_ground(many))
            self.assertIs(is_ground(whole(many)), True)

    def test_lines(self):
        for many in range(1, 8):
            lines = whole(many)[1]
            self.assertEqual(len(lines), many * (many - 1) // 2)
            self.assertEqual(list(lines), sorted(set(lines)))
            self.assertTrue(all(length == 1 for _, _, length in lines))

    def test_somewhat_beyond_the_bounds(self):
        self.assert_ground(whole(9), samples.whole_ground(9))


class Bridges(unittest.TestCase):
    def assert_bridges(self, ground, expected):
        answer = bridges(ground)
        self.assertEqual(answer, expected)
        self.assertTrue(samples.is_made_of_tuples(answer))

    def test_no_lines(self):
        for many in range(1, 8):
            self.assert_bridges((many, ()), ())

    def test_trees(self):
        self.assert_bridges((2, ((0, 1, 0),)), (0,))
        self.assert_bridges(samples.ROW, (0, 1, 2, 3, 4, 5))
        self.assert_bridges((5, ((3, 4, 1), (0, 2, 1), (1, 2, 1), (2, 4, 1))), (0, 1, 2, 3))

    def test_rings(self):
        for many in range(3, 8):
            self.assert_bridges(samples.ring(many), ())
            self.assert_bridges(samples.whole_ground(many), ())

    def test_rings_with_a_bridge(self):
        self.assert_bridges(samples.FORK, (2,))
        self.assert_bridges(HOUSE, (5,))
        self.assert_bridges((6, ((0, 1, 1), (1, 2, 1), (0, 2, 1), (2, 3, 1), (3, 4, 1), (4, 5, 1), (3, 5, 1))), (3,))

    def test_lines_that_join_the_same_spots(self):
        self.assert_bridges(samples.TWINS, ())
        self.assert_bridges((3, ((0, 1, 1), (0, 1, 2), (1, 2, 1))), (2,))
        self.assert_bridges((3, ((1, 2, 1), (0, 1, 1), (1, 2, 1))), (1,))

    def test_not_joined(self):
        self.assert_bridges(samples.APART, (1,))
        self.assert_bridges((4, ((0, 1, 1), (2, 3, 1))), (0, 1))
        self.assert_bridges((7, ((0, 1, 1), (1, 2, 1), (0, 2, 1), (4, 6, 1))), (3,))
        self.assert_bridges((7, ((5, 6, 1),)), (0,))

    def test_many_grounds(self):
        for ground in many_grounds():
            many, lines = ground
            pairs = [line[:2] for line in lines]
            groups = [samples.expect_groups(many, pairs[:number] + pairs[number + 1:]) for number in range(len(pairs))]
            fewest = len(samples.expect_groups(many, pairs))
            self.assert_bridges(ground, tuple(number for number in range(len(pairs)) if len(groups[number]) > fewest))

    def test_somewhat_beyond_the_bounds(self):
        self.assert_bridges((9, ((0, 8, 2000),) * 22 + ((1, 8, 3000),)), (22,))


if __name__ == "__main__":
    unittest.main()
