"""The text of a ground."""

from twighall.errors import NoGround
from twighall.things import is_ground


def written(ground):
    if not is_ground(ground):
        # The thing itself is not shown: Python refuses to write very great numbers.
        raise NoGround("this is no ground")
    words = ["spots", str(ground[0])]
    for line in ground[1]:
        words.append("line")
        words.extend([str(number) for number in line])
    return " ".join(words)
