"""The word of a plain tree, and the plain tree of a word."""


def word_of(tree, many):
    pairs = tree
    word = []
    for left in range(many, 2, -1):
        spot = least_end(pairs, many)
        pair = pairs_with(spot, pairs)[0]
        word.append(pair[1] if pair[0] == spot else pair[0])
        pairs = [kept for kept in pairs if kept != pair]
    return tuple(word)


def least_end(pairs, many):
    return min([spot for spot in range(many) if len(pairs_with(spot, pairs)) == 1])


def pairs_with(spot, pairs):
    return [pair for pair in pairs if spot in pair]


def tree_of(word, many):
    left = list(range(many))
    pairs = []
    for place in range(len(word)):
        # A spot that is still to be told is in more than one pair, so it isn't the one that is taken off here.
        spot = min([end for end in left if end not in word[place:]])
        pairs.append((min(spot, word[place]), max(spot, word[place])))
        left = [kept for kept in left if kept != spot]
    # The last two spots are a pair of which no word tells; one spot alone is in none.
    if len(left) == 2:
        pairs.append((left[0], left[1]))
    return tuple(sorted(pairs))
