"""Ways along a tree, and the exchange of one tree's lines for another's."""

from twighall.things import joined


def way(ground, tree, one, other):
    return ways_from(ground, tree, one)[other]


def ways_from(ground, tree, spot):
    ways = {spot: ()}
    # Each round goes at least one line further, and no way has more lines than the tree.
    for turn in range(len(tree)):
        for number in tree:
            line = ground[1][number]
            if line[0] in ways and line[1] not in ways:
                ways[line[1]] = ways[line[0]] + (number,)
            elif line[1] in ways and line[0] not in ways:
                ways[line[0]] = ways[line[1]] + (number,)
    return ways


def swaps(ground, tree, line):
    # An exchange leaves as many lines as there were: these are a tree just if they join all spots.
    return tuple([out for out in tree if len(joined(ground, exchanged(tree, out, line))) == 1])


def exchanged(tree, out, line):
    return tuple(sorted([number for number in tree if number != out] + [line]))


def steps(ground, first, last):
    pairs = []
    tree = first
    for line in last:
        if line not in tree:
            # There is such a line: else last would have the whole ring that this line closes.
            out = [number for number in swaps(ground, tree, line) if number not in last][0]
            pairs.append((out, line))
            tree = exchanged(tree, out, line)
    return tuple(pairs)
