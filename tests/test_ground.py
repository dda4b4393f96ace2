import unittest

from tests import samples
from twighall.things import is_ground


class Ground(unittest.TestCase):
    def grounds(self, *things):
        for thing in things:
            self.assertIs(is_ground(thing), True, thing)

    def no_grounds(self, *things):
        for thing in things:
            self.assertIs(is_ground(thing), False, thing)

    def test_ordinary(self):
        self.grounds(*samples.GROUNDS)
        self.grounds((3, ((0, 1, 4), (1, 2, 6), (0, 2, 9))))

    def test_how_many_spots(self):
        self.grounds(*[(many, ()) for many in range(1, 8)])
        self.no_grounds((0, ()), (8, ()), (-1, ()), (9, ()), (10 ** 30, ()), (-(10 ** 30), ()))
        self.no_grounds((8, ((0, 1, 1),)))

    def test_how_many_lines(self):
        for many in range(2, 8):
            for size in (0, 1, 20, 21):
                self.grounds((many, ((0, 1, 1),) * size))
            self.no_grounds((many, ((0, 1, 1),) * 22), (many, ((0, 1, 1),) * 23))
        self.grounds(samples.whole_ground(7))
        self.no_grounds((7, samples.whole_ground(7)[1] + ((5, 6, 1),)))

    def test_one_is_less_than_other(self):
        self.grounds((4, ((1, 2, 1),)))
        self.no_grounds((4, ((2, 2, 1),)), (4, ((2, 1, 1),)), (4, ((0, 0, 1),)), (4, ((3, 0, 1),)))

    def test_spots_that_the_ground_has(self):
        for many in range(2, 8):
            self.grounds((many, ((0, many - 1, 1),)), (many, ((many - 2, many - 1, 1),)))
            self.no_grounds((many, ((0, many, 1),)), (many, ((many - 1, many, 1),)), (many, ((-1, 0, 1),)))
        self.no_grounds((1, ((0, 0, 1),)), (1, ((0, 1, 1),)), (1, ((-1, 0, 1),)), (3, ((-2, -1, 1),)))

    def test_lengths(self):
        self.grounds(*[(2, ((0, 1, length),)) for length in (0, 1, 999, 1000)])
        self.no_grounds(*[(2, ((0, 1, length),)) for length in (-1, 1001, 10 ** 5000, -(10 ** 5000))])

    def test_several_lines_between_the_same_spots(self):
        self.grounds((3, ((0, 2, 1), (0, 2, 1), (0, 2, 5))), (3, ((1, 2, 5), (0, 1, 1), (1, 2, 0))))

    def test_lines_in_any_order(self):
        self.grounds((3, ((1, 2, 9), (0, 2, 4), (0, 1, 1))))

    def test_one_wrong_line_among_right_ones(self):
        for place in range(3):
            lines = [(0, 1, 1), (0, 2, 1), (1, 2, 1)]
            lines[place] = (1, 1, 1)
            self.no_grounds((3, tuple(lines)))

    def test_sizes_of_the_tuples(self):
        self.no_grounds((), (1,), (1, (), ()), (2, ((0, 1),)), (2, ((0, 1, 1, 1),)), (2, ((),)), (2, (0, 1, 1)))

    def test_truths_are_no_whole_numbers(self):
        self.no_grounds((True, ()), (2, ((False, 1, 1),)), (2, ((0, True, 1),)), (2, ((0, 1, True),)))

    def test_lists_stand_nowhere(self):
        for ground in samples.GROUNDS:
            self.no_grounds(*samples.listed(ground))
        self.no_grounds([1, ()], (1, []), (2, [(0, 1, 1)]), (2, ([0, 1, 1],)))

    def test_any_thing_in_any_place(self):
        for ground in samples.GROUNDS:
            for thing in samples.altered(ground):
                self.assertIs(is_ground(thing), samples.expect_ground(thing))


if __name__ == "__main__":
    unittest.main()
