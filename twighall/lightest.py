"""The length of lines, and the lightest tree of a ground."""

from twighall.errors import NoTree
from twighall.things import joined
from twighall.ways import way


def length_of(ground, some):
    return sum([ground[1][number][2] for number in some])


def lightest(ground):
    tree = ()
    for number in by_length(ground[1]):
        larger = tuple(sorted(tree + (number,)))
        # A line that leaves as many groups closes a ring, in which none is longer than it.
        if len(joined(ground, larger)) < len(joined(ground, tree)):
            tree = larger
    if len(joined(ground, tree)) != 1:
        raise NoTree("the lines of this ground do not join all its spots")
    return tree


def by_length(lines):
    return sorted(range(len(lines)), key=lambda number: lines[number][2])


def is_only(ground):
    tree = lightest(ground)
    left_out = [line for line in range(len(ground[1])) if line not in tree]
    return all([is_longer(ground, tree, line) for line in left_out])


def is_longer(ground, tree, line):
    # A line can be put for just those on the way between its ends: if one is as long, another tree is as short.
    lines = ground[1]
    between = way(ground, tree, lines[line][0], lines[line][1])
    return all([lines[number][2] < lines[line][2] for number in between])
