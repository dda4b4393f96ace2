"""Grounds, trees and plain trees, told from any other thing, and the spots that lines join."""

MOST_SPOTS = 7
MOST_LINES = 21
MOST_LENGTH = 1000


def is_whole(thing, least, most):
    # For Python a truth is a whole number too; for the document it is none.
    return isinstance(thing, int) and not isinstance(thing, bool) and least <= thing <= most


def is_tuple_of(thing, size):
    return isinstance(thing, tuple) and len(thing) == size


def is_pair(thing, many):
    if not is_tuple_of(thing, 2):
        return False
    return is_whole(thing[1], 0, many - 1) and is_whole(thing[0], 0, thing[1] - 1)


def is_line(thing, many):
    if not is_tuple_of(thing, 3):
        return False
    return is_pair(thing[:2], many) and is_whole(thing[2], 0, MOST_LENGTH)


def is_rising(parts):
    return all([before < after for before, after in zip(parts, parts[1:])])


def is_ground(thing):
    if not is_tuple_of(thing, 2):
        return False
    many = thing[0]
    lines = thing[1]
    if not is_whole(many, 1, MOST_SPOTS) or not isinstance(lines, tuple):
        return False
    return len(lines) <= MOST_LINES and all([is_line(line, many) for line in lines])


def is_tree(thing, ground):
    # Where there is no ground there is no tree of it: this is told, not refused.
    if not is_ground(ground):
        return False
    many = ground[0]
    last = len(ground[1]) - 1
    # Only whole numbers may come to be compared with one another, so their kind is asked first.
    if not is_tuple_of(thing, many - 1) or not all([is_whole(number, 0, last) for number in thing]):
        return False
    return is_rising(thing) and len(joined(ground, thing)) == 1


def is_plain_tree(thing, many):
    if not is_whole(many, 1, MOST_SPOTS):
        return False
    if not is_tuple_of(thing, many - 1) or not all([is_pair(pair, many) for pair in thing]):
        return False
    return is_rising(thing) and len(groups(many, thing)) == 1


def joined(ground, some):
    lines = ground[1]
    return groups(ground[0], [lines[number] for number in some])


def groups(many, lines):
    # Each spot bears the least spot of its group, so that the groups come by their first spots.
    firsts = list(range(many))
    for line in lines:
        firsts = drawn_together(firsts, firsts[line[0]], firsts[line[1]])
    return tuple([group_of(firsts, spot) for spot in range(many) if firsts[spot] == spot])


def drawn_together(firsts, one, other):
    least = min(one, other)
    return [least if first in (one, other) else first for first in firsts]


def group_of(firsts, first):
    return tuple([spot for spot in range(len(firsts)) if firsts[spot] == first])
