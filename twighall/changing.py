"""Grounds with a line less or with its ends drawn together, whole grounds, and bridges."""

from twighall.things import groups


def without(ground, line):
    lines = ground[1]
    return (ground[0], tuple([lines[number] for number in range(len(lines)) if number != line]))


def together(ground, line):
    one = ground[1][line][0]
    other = ground[1][line][1]
    lines = []
    for start, end, length in ground[1]:
        ends = (moved(start, one, other), moved(end, one, other))
        if ends[0] != ends[1]:
            lines.append((min(ends), max(ends), length))
    return (ground[0] - 1, tuple(lines))


def moved(spot, one, other):
    if spot == other:
        return one
    return spot - 1 if spot > other else spot


def whole(many):
    lines = []
    for one in range(many):
        lines.extend([(one, other, 1) for other in range(one + 1, many)])
    return (many, tuple(lines))


def bridges(ground):
    fewest = count_groups(ground)
    return tuple([number for number in range(len(ground[1])) if count_groups(without(ground, number)) > fewest])


def count_groups(ground):
    return len(groups(ground[0], ground[1]))
