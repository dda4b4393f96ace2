"""The trees of a ground, told and counted."""

from twighall.things import drawn_together


def trees(ground):
    many = ground[0]
    # Lines that close no ring, one fewer than spots, join all spots: so only such are kept while they grow.
    # Beside each stands the first spot of each spot's group.
    forests = [((), list(range(many)))]
    for size in range(1, many):
        larger = []
        for some, firsts in forests:
            larger.extend(grown(ground[1], some, firsts))
        forests = larger
    # Asked at the end for the sake of no spots at all: no lines are one fewer than these.
    return tuple([some for some, firsts in forests if len(some) == many - 1])


def grown(lines, some, firsts):
    # Only lines behind the last are put to some lines, so that each tree comes once, and all of them rising.
    start = some[-1] + 1 if some else 0
    larger = []
    for number in range(start, len(lines)):
        one = firsts[lines[number][0]]
        other = firsts[lines[number][1]]
        if one != other:
            larger.append((some + (number,), drawn_together(firsts, one, other)))
    return larger


def count_trees(ground):
    return len(trees(ground))
