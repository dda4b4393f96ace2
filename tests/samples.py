"""Things to ask of, and answers found another way than the package finds them."""

from itertools import combinations

FORK = (4, ((0, 1, 5), (0, 2, 0), (0, 3, 1000), (1, 2, 7)))
TWINS = (2, ((0, 1, 3), (0, 1, 3), (0, 1, 4)))
APART = (5, ((0, 3, 1), (1, 4, 2), (0, 3, 9)))
LONE = (1, ())
ROW = (7, tuple((spot, spot + 1, spot) for spot in range(6)))
GROUNDS = [FORK, TWINS, APART, LONE, ROW, (3, ()), (2, ((0, 1, 0),))]


def every_pair(many):
    return tuple(combinations(range(many), 2))


def whole_ground(many):
    return (many, tuple((one, other, 1) for one, other in every_pair(many)))


def nested(kind, depth):
    thing = 0
    for _ in range(depth):
        thing = kind([thing])
    return thing


def deep_thing():
    """Tuples and lists in turn, thirty-two deep."""
    thing = (True, None)
    for _ in range(16):
        thing = ([thing, "line", 3],)
    return thing


def odd_things():
    """Made anew for each asker, as some of them can be changed."""
    return [
        0, 1, 2, 3, 6, 7, 8, 21, 22, 999, 1000, 1001, -1, -2, -1000, 10 ** 5000, -(10 ** 5000),
        True, False, None,
        "", "0", "1", "spots 1", "line 0 1 1", "01", "012", "\t\n~",
        (), (0,), (1,), (0, 1), (1, 0), (0, 0), (0, 1, 2), (0, 1, 2, 3), (1, ()), (2, ((0, 1, 1),)), ((0, 1),),
        (True, False), (None, None), ("0", "1"), (None,), ("",), ((),), ((), ()), (False, True, True),
        [], [0], [0, 1], [0, 1, 2], [1, ()], [(0, 1)], [[]], [None, True], ([],), ([0, 1],), ([0, 1, 1],),
        nested(tuple, 30), nested(list, 30), nested(tuple, 35), nested(list, 35), deep_thing(),
    ]


def as_lists(thing):
    return [as_lists(part) for part in thing] if isinstance(thing, tuple) else thing


def replaced(thing, odd):
    """The thing with the odd one in the place of the whole, then of each of its parts."""
    yield odd
    if isinstance(thing, tuple):
        for place, part in enumerate(thing):
            for other in replaced(part, odd):
                yield thing[:place] + (other,) + thing[place + 1:]


def listed(thing):
    """The thing with a list in the place of each single tuple in it, and of all of them."""
    if isinstance(thing, tuple):
        yield list(thing)
        yield as_lists(thing)
        for place, part in enumerate(thing):
            for other in listed(part):
                yield thing[:place] + (other,) + thing[place + 1:]


def truthed(thing):
    """The thing with a truth for each 0 and 1 in it, which are equal for Python."""
    if isinstance(thing, tuple):
        for place, part in enumerate(thing):
            for other in truthed(part):
                yield thing[:place] + (other,) + thing[place + 1:]
    elif type(thing) is int and thing in (0, 1):
        yield bool(thing)


def altered(thing):
    """Every thing that is told above of this one, and the thing itself."""
    yield thing
    for odd in odd_things():
        yield from replaced(thing, odd)
    yield from listed(thing)
    yield from truthed(thing)


def is_number(thing, numbers):
    return type(thing) is int and thing in numbers


def expect_pair(thing, many):
    if type(thing) is not tuple or len(thing) != 2:
        return False
    return all(type(spot) is int for spot in thing) and thing in every_pair(many)


def expect_ground(thing):
    if type(thing) is not tuple or len(thing) != 2:
        return False
    many, lines = thing
    if not is_number(many, range(1, 8)) or type(lines) is not tuple or len(lines) not in range(22):
        return False
    for line in lines:
        if type(line) is not tuple or len(line) != 3:
            return False
        if not expect_pair(line[:2], many) or not is_number(line[2], range(1001)):
            return False
    return True


def reached(many, pairs, start):
    """All spots to which one can go from the start."""
    seen = {start}
    for _ in range(many):
        for one, other in pairs:
            if one in seen or other in seen:
                seen |= {one, other}
    return seen


def expect_groups(many, pairs):
    return tuple(sorted({tuple(sorted(reached(many, pairs, spot))) for spot in range(many)}))


def expect_tree(thing, ground):
    many, lines = ground
    if type(thing) is not tuple or not all(is_number(part, range(len(lines))) for part in thing):
        return False
    if list(thing) != sorted(set(thing)) or len(thing) + 1 != many:
        return False
    return len(reached(many, [lines[number][:2] for number in thing], 0)) == many


def expect_plain_tree(thing, many):
    if type(thing) is not tuple or not all(expect_pair(part, many) for part in thing):
        return False
    if list(thing) != sorted(set(thing)) or len(thing) + 1 != many:
        return False
    return len(reached(many, thing, 0)) == many
