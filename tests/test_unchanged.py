import unittest
from itertools import product

from tests import samples
from twighall.changing import bridges, together, whole, without
from twighall.counting import count_trees, trees
from twighall.errors import NoGround, NoText, NoTree
from twighall.lightest import is_only, length_of, lightest
from twighall.middles import apart, longest, middles
from twighall.reading import read
from twighall.things import is_ground, is_plain_tree, is_tree, joined
from twighall.ways import steps, swaps, way
from twighall.words import tree_of, word_of
from twighall.writing import written

STAR = ((0, 1), (0, 2), (0, 3))


def kinds_and_parts(thing):
    """The thing with its kinds told, as Python takes True and 1 for equal."""
    if isinstance(thing, (tuple, list)):
        return (type(thing), [kinds_and_parts(part) for part in thing])
    return (type(thing), thing)


def written_or_refused(thing):
    try:
        return written(thing)
    except NoGround:
        return "refused"


def read_or_refused(text):
    try:
        return read(text)
    except NoText:
        return "refused"


def told_or_refused(asked, ground):
    try:
        return asked(ground)
    except NoTree:
        return "refused"


def all_told(ground):
    """What the functions that take a ground, one of its lines, its spots or its text tell of it."""
    told = [trees(ground), count_trees(ground), bridges(ground), whole(ground[0]), read(written(ground))]
    for line in range(len(ground[1])):
        told += [without(ground, line), together(ground, line), length_of(ground, tuple(range(line)))]
    return told + [told_or_refused(lightest, ground)]


def all_told_of_tree(tree, last, ground):
    """What the functions that take a tree of the ground tell of it, with the other tree last."""
    told = [length_of(ground, tree), steps(ground, tree, last)]
    told += [swaps(ground, tree, line) for line in range(len(ground[1])) if line not in tree]
    return told + [way(ground, tree, *ends) for ends in product(range(ground[0]), repeat=2)]


def all_told_of_plain_tree(tree, many):
    told = [word_of(tree, many), tree_of(word_of(tree, many), many), middles(tree, many), longest(tree, many)]
    return told + [apart(tree, many, *ends) for ends in product(range(many), repeat=2)]


def some_grounds():
    return samples.GROUNDS + samples.mixed_grounds(6) + samples.mixed_grounds(12)


def some_trees():
    """Trees with the last tree of their grounds, and the grounds."""
    some = []
    for ground in some_grounds() + [samples.mixed_ground(7, 21, 5)]:
        told = trees(ground)
        some += [(tree, told[-1], ground) for tree in told[::len(told) // 4 + 1]]
    return some


def some_plain_trees():
    return [(tree, many) for many in range(1, 8) for tree in samples.plain_trees(many)[::101]]


class Unchanged(unittest.TestCase):
    def test_what_is_handed_in_is_not_changed(self):
        for whole in (samples.FORK, samples.TWINS, STAR, (0, 1, 2)):
            for thing in samples.altered(whole):
                before = kinds_and_parts(thing)
                is_ground(thing)
                is_tree(thing, samples.FORK)
                is_plain_tree(thing, 4)
                written_or_refused(thing)
                self.assertEqual(kinds_and_parts(thing), before)

    def test_lists_handed_in_to_joined_are_not_changed(self):
        ground = [4, [[0, 1, 5], [0, 2, 0], [1, 3, 2]]]
        some = [0, 2]
        joined(ground, some)
        self.assertEqual((ground, some), ([4, [[0, 1, 5], [0, 2, 0], [1, 3, 2]]], [0, 2]))

    def test_grounds_handed_in_are_not_changed(self):
        for ground in some_grounds():
            before = kinds_and_parts(ground)
            all_told(ground)
            self.assertEqual(kinds_and_parts(ground), before)

    def test_lists_handed_in_for_grounds_are_not_changed(self):
        for ground in samples.GROUNDS:
            listed = samples.as_lists(ground)
            trees(listed)
            count_trees(listed)
            bridges(listed)
            for line in range(len(ground[1])):
                without(listed, line)
                together(listed, line)
            self.assertEqual(listed, samples.as_lists(ground))

    def test_grounds_are_told_again_the_same(self):
        first = [all_told(ground) for ground in some_grounds()]
        again = [all_told(ground) for ground in reversed(some_grounds())]
        self.assertEqual(first, again[::-1])

    def test_whether_it_is_the_only_one_is_told_again_the_same(self):
        first = [told_or_refused(is_only, ground) for ground in some_grounds()]
        again = [told_or_refused(is_only, ground) for ground in reversed(some_grounds())]
        self.assertEqual(first, again[::-1])
        for told in first:
            self.assertIn(type(told), (bool, str))

    def test_of_trees_and_plain_trees(self):
        for asked, handed_in in ((all_told_of_tree, some_trees()), (all_told_of_plain_tree, some_plain_trees())):
            before = kinds_and_parts(handed_in)
            first = [asked(*things) for things in handed_in]
            again = [asked(*things) for things in reversed(handed_in)]
            self.assertEqual(first, again[::-1])
            self.assertEqual(kinds_and_parts(handed_in), before)
            for told in first:
                self.assertTrue(samples.is_made_of_tuples(tuple(told)))

    def test_lists_handed_in_for_trees_are_not_changed(self):
        for tree, last, ground in some_trees():
            listed = samples.as_lists((ground, tree, last))
            all_told_of_tree(listed[1], listed[2], listed[0])
            told_or_refused(lightest, listed[0])
            told_or_refused(is_only, listed[0])
            self.assertEqual(listed, samples.as_lists((ground, tree, last)))
        for tree, many in some_plain_trees():
            listed = samples.as_lists(tree)
            word = list(word_of(listed, many))
            tree_of(word, many)
            all_told_of_plain_tree(listed, many)
            self.assertEqual((listed, word), (samples.as_lists(tree), list(word_of(tree, many))))

    def test_texts_are_told_again_the_same(self):
        texts = [written(ground) for ground in some_grounds()] + ["", "spots 8", "spots 1 ", "spots 2 line 1 0 1"]
        first = [read_or_refused(text) for text in texts]
        again = [read_or_refused(text) for text in reversed(texts)]
        self.assertEqual(first, again[::-1])
        self.assertEqual(first[-4:], ["refused"] * 4)

    def test_no_list_stands_in_what_is_told(self):
        for ground in some_grounds():
            for told in all_told(ground):
                self.assertTrue(samples.is_made_of_tuples(told))

    def test_asked_again_the_same_is_told(self):
        for _ in range(3):
            self.assertIs(is_ground((1, ())), True)
            self.assertIs(is_ground((True, ())), False)
            self.assertIs(is_tree((0,), samples.TWINS), True)
            self.assertIs(is_tree((False,), samples.TWINS), False)
            self.assertIs(is_plain_tree(STAR, 4), True)
            self.assertIs(is_plain_tree(((False, 1),) + STAR[1:], 4), False)
            self.assertEqual(joined(samples.FORK, (2, 3)), ((0, 3), (1, 2)))
            self.assertEqual(joined(samples.FORK, ()), ((0,), (1,), (2,), (3,)))
            self.assertEqual(written(samples.TWINS), "spots 2 line 0 1 3 line 0 1 3 line 0 1 4")
            self.assertEqual(written_or_refused((True, ())), "refused")

    def test_every_answer_twice(self):
        for whole in (samples.FORK, STAR, (0, 1, 2)):
            for asked in (is_ground, written_or_refused, lambda thing: is_tree(thing, samples.FORK),
                          lambda thing: is_plain_tree(thing, 4)):
                first = [asked(thing) for thing in samples.altered(whole)]
                again = [asked(thing) for thing in samples.altered(whole)]
                self.assertEqual(first, again)


if __name__ == "__main__":
    unittest.main()
