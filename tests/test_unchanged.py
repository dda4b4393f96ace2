import unittest

from tests import samples
from twighall.errors import NoGround
from twighall.things import is_ground, is_plain_tree, is_tree, joined
from twighall.writing import written

STAR = ((0, 1), (0, 2), (0, 3))


def kinds_and_parts(thing):
    """The thing with its kinds told, as Python takes True and 1 for equal."""
    if isinstance(thing, (tuple, list)):
        return (type(thing), [kinds_and_parts(part) for part in thing])
    return (type(thing), thing)


def written_or_refused(thing):
    try:
        return written(thing)
    except NoGround:
        return "refused"


class Unchanged(unittest.TestCase):
    def test_what_is_handed_in_is_not_changed(self):
        for whole in (samples.FORK, samples.TWINS, STAR, (0, 1, 2)):
            for thing in samples.altered(whole):
                before = kinds_and_parts(thing)
                is_ground(thing)
                is_tree(thing, samples.FORK)
                is_plain_tree(thing, 4)
                written_or_refused(thing)
                self.assertEqual(kinds_and_parts(thing), before)

    def test_lists_handed_in_to_joined_are_not_changed(self):
        ground = [4, [[0, 1, 5], [0, 2, 0], [1, 3, 2]]]
        some = [0, 2]
        joined(ground, some)
        self.assertEqual((ground, some), ([4, [[0, 1, 5], [0, 2, 0], [1, 3, 2]]], [0, 2]))

    def test_asked_again_the_same_is_told(self):
        for _ in range(3):
            self.assertIs(is_ground((1, ())), True)
            self.assertIs(is_ground((True, ())), False)
            self.assertIs(is_tree((0,), samples.TWINS), True)
            self.assertIs(is_tree((False,), samples.TWINS), False)
            self.assertIs(is_plain_tree(STAR, 4), True)
            self.assertIs(is_plain_tree(((False, 1),) + STAR[1:], 4), False)
            self.assertEqual(joined(samples.FORK, (2, 3)), ((0, 3), (1, 2)))
            self.assertEqual(joined(samples.FORK, ()), ((0,), (1,), (2,), (3,)))
            self.assertEqual(written(samples.TWINS), "spots 2 line 0 1 3 line 0 1 3 line 0 1 4")
            self.assertEqual(written_or_refused((True, ())), "refused")

    def test_every_answer_twice(self):
        for whole in (samples.FORK, STAR, (0, 1, 2)):
            for asked in (is_ground, written_or_refused, lambda thing: is_tree(thing, samples.FORK),
                          lambda thing: is_plain_tree(thing, 4)):
                first = [asked(thing) for thing in samples.altered(whole)]
                again = [asked(thing) for thing in samples.altered(whole)]
                self.assertEqual(first, again)


if __name__ == "__main__":
    unittest.main()
