"""Things to ask of, and answers found another way than the package finds them."""

import re
from fractions import Fraction
from functools import cache
from itertools import combinations, product

FORK = (4, ((0, 1, 5), (0, 2, 0), (0, 3, 1000), (1, 2, 7)))
TWINS = (2, ((0, 1, 3), (0, 1, 3), (0, 1, 4)))
APART = (5, ((0, 3, 1), (1, 4, 2), (0, 3, 9)))
LONE = (1, ())
ROW = (7, tuple((spot, spot + 1, spot) for spot in range(6)))
GROUNDS = [FORK, TWINS, APART, LONE, ROW, (3, ()), (2, ((0, 1, 0),))]


def every_pair(many):
    return tuple(combinations(range(many), 2))


def whole_ground(many):
    return (many, tuple((one, other, 1) for one, other in every_pair(many)))


def ring(many):
    return (many, tuple((spot, spot + 1, 2) for spot in range(many - 1)) + ((0, many - 1, 5),))


def mixed_ground(many, size, seed):
    """A ground whose lines lie as if by chance, but the same at each run."""
    lines = []
    for _ in range(size):
        numbers = []
        for _ in range(2):
            seed = (seed * 1103515245 + 12345) % 2 ** 31
            numbers.append(seed // 2 ** 12)
        one, other = every_pair(many)[numbers[0] % len(every_pair(many))]
        lines.append((one, other, numbers[1] % 1001))
    return (many, tuple(lines))


def mixed_grounds(size):
    return [mixed_ground(many, size, seed) for many in range(2, 8) for seed in range(3)]


def nested(kind, depth):
    thing = 0
    for _ in range(depth):
        thing = kind([thing])
    return thing


def deep_thing():
    """Tuples and lists in turn, thirty-two deep."""
    thing = (True, None)
    for _ in range(16):
        thing = ([thing, "line", 3],)
    return thing


def odd_things():
    """Made anew for each asker, as some of them can be changed."""
    return [
        0, 1, 2, 3, 6, 7, 8, 21, 22, 999, 1000, 1001, -1, -2, -1000, 10 ** 5000, -(10 ** 5000),
        True, False, None,
        "", "0", "1", "spots 1", "line 0 1 1", "01", "012", "\t\n~",
        (), (0,), (1,), (0, 1), (1, 0), (0, 0), (0, 1, 2), (0, 1, 2, 3), (1, ()), (2, ((0, 1, 1),)), ((0, 1),),
        (True, False), (None, None), ("0", "1"), (None,), ("",), ((),), ((), ()), (False, True, True),
        [], [0], [0, 1], [0, 1, 2], [1, ()], [(0, 1)], [[]], [None, True], ([],), ([0, 1],), ([0, 1, 1],),
        nested(tuple, 30), nested(list, 30), nested(tuple, 35), nested(list, 35), deep_thing(),
    ]


def as_lists(thing):
    return [as_lists(part) for part in thing] if isinstance(thing, tuple) else thing


def replaced(thing, odd):
    """The thing with the odd one in the place of the whole, then of each of its parts."""
    yield odd
    if isinstance(thing, tuple):
        for place, part in enumerate(thing):
            for other in replaced(part, odd):
                yield thing[:place] + (other,) + thing[place + 1:]


def listed(thing):
    """The thing with a list in the place of each single tuple in it, and of all of them."""
    if isinstance(thing, tuple):
        yield list(thing)
        yield as_lists(thing)
        for place, part in enumerate(thing):
            for other in listed(part):
                yield thing[:place] + (other,) + thing[place + 1:]


def truthed(thing):
    """The thing with a truth for each 0 and 1 in it, which are equal for Python."""
    if isinstance(thing, tuple):
        for place, part in enumerate(thing):
            for other in truthed(part):
                yield thing[:place] + (other,) + thing[place + 1:]
    elif type(thing) is int and thing in (0, 1):
        yield bool(thing)


def altered(thing):
    """Every thing that is told above of this one, and the thing itself."""
    yield thing
    for odd in odd_things():
        yield from replaced(thing, odd)
    yield from listed(thing)
    yield from truthed(thing)


def is_number(thing, numbers):
    return type(thing) is int and thing in numbers


def expect_pair(thing, many):
    if type(thing) is not tuple or len(thing) != 2:
        return False
    return all(type(spot) is int for spot in thing) and thing in every_pair(many)


def expect_ground(thing):
    if type(thing) is not tuple or len(thing) != 2:
        return False
    many, lines = thing
    if not is_number(many, range(1, 8)) or type(lines) is not tuple or len(lines) not in range(22):
        return False
    for line in lines:
        if type(line) is not tuple or len(line) != 3:
            return False
        if not expect_pair(line[:2], many) or not is_number(line[2], range(1001)):
            return False
    return True


def reached(many, pairs, start):
    """All spots to which one can go from the start."""
    seen = {start}
    for _ in range(many):
        for one, other in pairs:
            if one in seen or other in seen:
                seen |= {one, other}
    return seen


def expect_groups(many, pairs):
    return tuple(sorted({tuple(sorted(reached(many, pairs, spot))) for spot in range(many)}))


def expect_tree(thing, ground):
    many, lines = ground
    if type(thing) is not tuple or not all(is_number(part, range(len(lines))) for part in thing):
        return False
    if list(thing) != sorted(set(thing)) or len(thing) + 1 != many:
        return False
    return len(reached(many, [lines[number][:2] for number in thing], 0)) == many


def expect_plain_tree(thing, many):
    if type(thing) is not tuple or not all(expect_pair(part, many) for part in thing):
        return False
    if list(thing) != sorted(set(thing)) or len(thing) + 1 != many:
        return False
    return len(reached(many, thing, 0)) == many


def expect_trees(ground):
    some = combinations(range(len(ground[1])), ground[0] - 1)
    return tuple(thing for thing in some if expect_tree(thing, ground))


def expect_count(ground):
    """How many trees there are, by Kirchhoff's rows: no tree is looked for here."""
    many, lines = ground
    rows = [[Fraction(0)] * many for _ in range(many)]
    for one, other, _ in lines:
        rows[one][one] += 1
        rows[other][other] += 1
        rows[one][other] -= 1
        rows[other][one] -= 1
    return determinant([row[1:] for row in rows[1:]])


def determinant(rows):
    if not rows:
        return 1
    for place, row in enumerate(rows):
        if row[0] != 0:
            rest = rows[:place] + rows[place + 1:]
            smaller = [[part - other[0] * first / row[0] for part, first in zip(other[1:], row[1:])] for other in rest]
            return (-1) ** place * row[0] * determinant(smaller)
    return 0


def walked(lines, numbers, start):
    """The spot to which one comes along these lines, one behind the other, or None where one can't go so."""
    spot = start
    for number in numbers:
        ends = lines[number][:2]
        if spot not in ends:
            return None
        spot = sum(ends) - spot
    return spot


def exchanged(tree, out, into):
    return tuple(sorted(set(tree) - {out} | {into}))


def row(spots):
    """The plain tree that goes through these spots one behind the other."""
    return tuple(sorted(tuple(sorted(pair)) for pair in zip(spots, spots[1:])))


def star(many, middle):
    return tuple(sorted(tuple(sorted((middle, spot))) for spot in range(many) if spot != middle))


@cache
def plain_trees(many):
    return tuple(tree for tree in combinations(every_pair(many), many - 1) if expect_plain_tree(tree, many))


def words(many):
    return product(range(many), repeat=max(many - 2, 0))


def expect_word(tree, many):
    """By the neighbours of each spot that is left."""
    near = {spot: {sum(pair) - spot for pair in tree if spot in pair} for spot in range(many)}
    word = []
    while len(near) > 2:
        least = min(spot for spot in near if len(near[spot]) == 1)
        (other,) = near.pop(least)
        near[other].remove(least)
        word.append(other)
    return tuple(word)


def expect_aparts(tree, many):
    """For each two spots the fewest pairs between them, drawn from all ways through further spots."""
    aparts = {(one, other): 0 if one == other else many for one, other in product(range(many), repeat=2)}
    for one, other in tree:
        aparts[one, other] = aparts[other, one] = 1
    for through, one, other in product(range(many), repeat=3):
        aparts[one, other] = min(aparts[one, other], aparts[one, through] + aparts[through, other])
    return aparts


def expect_middles(tree, many):
    """The spots that are left when all spots in one pair alone are taken off, again and again."""
    left = set(range(many))
    pairs = list(tree)
    while len(left) > 2:
        left -= {spot for spot in left if sum(spot in pair for pair in pairs) == 1}
        pairs = [pair for pair in pairs if set(pair) <= left]
    return tuple(sorted(left))


def expect_read(text):
    """The ground of which the text is the writing, or None."""
    number = "(?:0|[1-9][0-9]*)"
    if not re.fullmatch(f"spots {number}(?: line {number} {number} {number})*", text):
        return None
    if max(len(word) for word in text.split(" ")) > 5:
        return None
    numbers = [int(word) for word in re.findall("[0-9]+", text)]
    ground = (numbers[0], tuple(tuple(numbers[place:place + 3]) for place in range(1, len(numbers), 3)))
    return ground if expect_ground(ground) else None


def is_made_of_tuples(thing):
    """Whether the thing is made of tuples, texts and whole numbers alone."""
    if type(thing) is tuple:
        return all(is_made_of_tuples(part) for part in thing)
    return type(thing) in (int, str)
