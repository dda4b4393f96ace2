"""How far apart the spots of a plain tree are, its middles, and its longest way."""

from twighall.ways import way


def apart(tree, many, one, other):
    return len(way(as_ground(tree, many), tuple(range(len(tree))), one, other))


def as_ground(tree, many):
    # Each pair becomes a line, so that all lines of the ground are a tree of it.
    return (many, tuple([(pair[0], pair[1], 1) for pair in tree]))


def middles(tree, many):
    reaches = [reach(tree, many, spot) for spot in range(many)]
    return tuple([spot for spot in range(many) if reaches[spot] == min(reaches)])


def reach(tree, many, spot):
    return max([apart(tree, many, spot, other) for other in range(many)])


def longest(tree, many):
    return max([reach(tree, many, spot) for spot in range(many)])
